import PyProof.Rows.All
import Wide.All
import OpenK.AllK
import Wide.FinOn
import PySem.Str
import HandS.ForMost
import HandS.ForExc
import HandS.TryMany
import HandS.Deep
import HandS.IsInst
import HandS.TupMul
import HandS.TupAny
import HandS.Style
import HandS.Small
import HandS.Flow
import HandS.Zip
import HandS.CallSlots
import KE.DataEq
import KE.DataFind
import HandS.Codes
import KE.KTupSum
import KE.DataMinMax
import KE.SortData
import HandS.ExcValue
import HandS.ExcOwn
import HandS.Strs
import HandS.Iter
import HandS.NoneIn
import HandS.Comp
import HandS.Star
import KE.GoesZip
import KE.GoesMore
import KE.GoesEnum
import KE.KRevSl
import HandS.CallRecv
import HandS.ExcIs
import HandS.SortKw
import HandS.Defaults
import HandS.Head0
import HandS.Head1
import HandS.Head2
import HandS.HeadEnd
import HandS.HeadHook1
import HandS.HeadHook2
import PySem.Challenge.RW_movedchest_k15_whole_gaps_by_own_runs
set_option Elab.async false
set_option linter.all false
set_option maxRecDepth 100000
/-! The runner: a small evaluator of pure values. -/
namespace Rn
open PySem

inductive PV where
  | non | bl (b : Bool) | int (i : Int) | str (x : Str) | tup (l : List PV) | lst (l : List PV) | klst (l : List PV) | box (n : Nat) | fn (f : Nat) | ty (t : String) | xc (c : Nat) (l : List PV)
deriving Inhabited

inductive Bo | add | sub | mul | fdiv | mod | pow
inductive Co | eq | ne | lt | le | gt | ge | is | isn | inn | nin
inductive Bl | len | abs | int | str | list | tuple | isi | sum | any | all | max | min | sorted | max2 | min2
inductive Mt | index | count | join | split1 | partition | removeprefix | startswith

inductive Tg where
  | nm (i : Nat) | nil | cons (h t : Tg) | tup (l : Tg)

inductive Ex where
  | non | bl (b : Bool) | int (i : Int) | str (x : Str) | gty (t : String) | var (i : Nat) | gfn (f : Nat) | gcn (g : Nat)
  | nil | cons (h t : Ex)
  | tup (es : Ex) | lst (bx : Bool) (es : Ex)
  | bin (o : Bo) (bx : Bool) (a b : Ex) | neg (a : Ex) | not (a : Ex) | and (a b : Ex) | or (a b : Ex)
  | cmp (o : Co) (a b : Ex) | chn (o o' : Co) (a b d : Ex) | ite (t a b : Ex)
  | idx (a b : Ex) | slc (bx : Bool) (a lo hi : Ex) | abs | prt (e : Ex) | rev (bx : Bool) (a : Ex) | evr (bx : Bool) (a lo : Ex) (k : Nat)
  | lc (bx : Bool) (own : List Nat) (cl : Ex) | cl (t : Tg) (it cond rest : Ex) | one (elt : Ex)
  | irng (es : Ex) | ienu (e : Ex) | izip (a b : Ex) | izt (a b c : Ex)
  | call (f : Nat) (es : Ex) | calv (f : Nat) (es : Ex) | calk (f : Nat) (perm : List Nat) (es : Ex) | cale (f es : Ex)
  | blt (b : Bl) (bx : Bool) (es : Ex) | mth (m : Mt) (bx : Bool) (o es : Ex) | maxd (es d : Ex)
  | fld (o : Ex) | isx (o : Ex) (t : String) | frz (e : Ex)

inductive Sm where
  | nil | seq (s r : Sm)
  | asg (t : Tg) (e : Ex) | par (t : Tg) (es : Ex) | sub (o i e : Ex) | aug (i : Nat) (o : Bo) (e : Ex) | augs (a i : Ex) (o : Bo) (e : Ex)
  | app (o e : Ex) | pop (o : Ex) | ex (e : Ex)
  | ife (t : Ex) (a b : Sm) | for (t : Tg) (it : Ex) (b : Sm) | whl (t : Ex) (b : Sm)
  | ret (e : Ex) | retN | brk | cnt | pas
  | rai (c : Nat) (es : Ex) | try (b hs : Sm) | hnd (c : Nat) (n : Option Nat) (b r : Sm)
  | frz (i : Nat) | gc

/-- an exception: its class, its field -/
structure Xc where
  cls : Nat
  args : List PV

abbrev Sto := List (Option (List PV))
abbrev Env := List (Option PV)

inductive R (α : Type) where
  | ok (a : α) (S : Sto) | ex (c : Xc) (S : Sto) | no

def R.bind {α β : Type} (r : R α) (f : α → Sto → R β) : R β := match r with
  | .ok a S => f a S
  | .ex c S => .ex c S
  | .no => .no
def withL {β : Type} (v : PV) (f : List PV → R β) : R β := match v with
  | .lst l => f l
  | _ => .no
def withO {α β : Type} (o : Option α) (f : α → R β) : R β := match o with
  | some a => f a
  | none => .no
def opt {α : Type} (o : Option α) (S : Sto) : R α := match o with
  | some a => .ok a S
  | none => .no

mutual
def PV.beq : PV → PV → Bool
  | .non, .non => true
  | .bl a, .bl b => a == b
  | .bl a, .int b =>
        (if a then 1 else 0) == b
  | .int a, .bl b =>
        a == (if b then 1 else 0)
  | .int a, .int b => a == b
  | .str a, .str b => a == b
  | .tup a, .tup b => PV.beqs a b
  | .lst a, .lst b => PV.beqs a b
  | _, _ => false
def PV.beqs : List PV → List PV → Bool
  | [], [] => true
  | a :: as, b :: bs => PV.beq a b && PV.beqs as bs
  | _, _ => false
end
mutual
/-- the very same data -/
def PV.same : PV → PV → Bool
  | .non, .non => true
  | .bl a, .bl b => a == b
  | .int a, .int b => a == b
  | .str a, .str b => a == b
  | .tup a, .tup b => PV.sames a b
  | .lst a, .lst b => PV.sames a b
  | .fn a, .fn b => Nat.beq a b
  | _, _ => false
def PV.sames : List PV → List PV → Bool
  | [], [] => true
  | a :: as, b :: bs => PV.same a b && PV.sames as bs
  | _, _ => false
end
mutual
/-- pure data, at most so deep -/
def PV.shp : Nat → PV → Bool
  | 0, .tup _ => false
  | 0, .lst _ => false
  | n + 1, .tup l => PV.shps n l
  | n + 1, .lst l => PV.shps n l
  | _, .klst _ => false
  | _, .box _ => false
  | _, .fn _ => false
  | _, .ty _ => false
  | _, .xc _ _ => false
  | _, _ => true
def PV.shps : Nat → List PV → Bool
  | _, [] => true
  | n, a :: as => PV.shp n a && PV.shps n as
end
mutual
/-- no exception within -/
def PV.nox : PV → Bool
  | .tup l => PV.noxs l
  | .lst l => PV.noxs l
  | .klst l => PV.noxs l
  | .xc _ _ => false
  | _ => true
def PV.noxs : List PV → Bool
  | [] => true
  | a :: as => PV.nox a && PV.noxs as
end
mutual
/-- no box within -/
def PV.nob : PV → Bool
  | .tup l => PV.nobs l
  | .lst l => PV.nobs l
  | .klst l => PV.nobs l
  | .box _ => false
  | .xc _ _ => false
  | _ => true
def PV.nobs : List PV → Bool
  | [] => true
  | a :: as => PV.nob a && PV.nobs as
end

def ilt (a b : Int) : Bool := match a, b with
  | .ofNat m,
        .ofNat n => Nat.blt m n
  | .ofNat _,
        .negSucc _ => false
  | .negSucc _,
        .ofNat _ => true
  | .negSucc m,
        .negSucc n => Nat.blt n m
def ile (a b : Int) : Bool := !ilt b a

def getB (S : Sto) (n : Nat) : Option (List PV) := match S[n]? with
  | some (some l) => some l
  | _ => none
/-- the items of a list (in the store or not), of a tuple -/
def seqOf (S : Sto) : PV → Option (List PV)
  | .tup l => some l
  | .lst l => some l
  | .klst l => some l
  | .box n => getB S n
  | _ => none
/-- the items of a list -/
def lstOf (S : Sto) : PV → Option (List PV)
  | .lst l => some l
  | .box n => getB S n
  | _ => none
/-- what is read: a box as its list -/
def der (S : Sto) (v : PV) : PV := match v with
  | .box n => match getB S n with
    | some l => .lst l
    | none => v
  | .klst l => .lst l
  | _ => v
/-- what is lent -/
def derB (S : Sto) (v : PV) : PV := match v with
  | .box n => match getB S n with
    | some l => .lst l
    | none => v
  | _ => v

def truth (S : Sto) : PV → Option Bool
  | .non => some false
  | .bl b => some b
  | .int i => some (!(i == 0))
  | .str x => some (!(Nat.beq x.cps.size 0))
  | .tup l => some (!l.isEmpty)
  | .lst l => some (!l.isEmpty)
  | .klst l => some (!l.isEmpty)
  | .box n => match getB S n with
    | some l => some (!l.isEmpty)
    | none => none
  | _ => none

def lim : Nat := 1000000
/-- a new list: in the store, or not -/
def mk (bx : Bool) (l : List PV) (S : Sto) : R PV := if Nat.ble l.length lim then (if bx then .ok (.box S.length) (S ++ [some l]) else .ok (.lst l) S) else .no
def mkT (l : List PV) (S : Sto) : R PV := if Nat.ble l.length lim then .ok (.tup l) S else .no

def small64 (i : Int) : Bool := ilt (-18446744073709551616) i && ilt i 18446744073709551616

def rep (l : List PV) : Nat → List PV
  | 0 => []
  | k + 1 => l ++ rep l k

def addop (bx : Bool) (a b : PV) (S : Sto) : R PV := match a with
  | .int i => match b with
    | .int j => .ok (.int (i + j)) S
    | _ => .no
  | .str x => match b with
    | .str y => if Nat.ble (x.cps.size + y.cps.size) lim then .ok (.str (x ++ y)) S else .no
    | _ => .no
  | .tup x => match b with
    | .tup y => mkT (x ++ y) S
    | _ => .no
  | a => withO (lstOf S a) fun x => withO (lstOf S b) fun y => mk bx (x ++ y) S
def mulop (bx : Bool) (a b : PV) (S : Sto) : R PV := match b with
  | .int j => match a with
    | .int i => if small64 i || small64 j then .ok (.int (i * j)) S else .no
    | .tup x => if Nat.blt 0 x.length && Nat.ble x.length 250 then if ilt 1 j then if ile j 4000 then mkT (rep x j.toNat) S else .no else if ilt j 1 then if ile (-1000) j then mkT [] S else .no else .ok (.tup x) S else .no
    | a => withO (lstOf S a) fun x => if ilt 0 j && ile j 4000 && Nat.ble x.length 250 then mk bx (rep x j.toNat) S else .no
  | _ => .no
def binop (o : Bo) (bx : Bool) (a b : PV) (S : Sto) : R PV := match o with
  | .add => addop bx a b S
  | .mul => mulop bx a b S
  | o => match a with
    | .int i => match b with
      | .int j => match o with
        | .sub => .ok (.int (i - j)) S
        | .fdiv => if ilt 0 j && ilt j 18446744073709551616 then .ok (.int (i / j)) S else .no
        | .mod => if ilt 0 j then .ok (.int (i % j)) S else .no
        | .pow => if ile 0 j && ile j 1000 && small64 i then .ok (.int (i ^ j.toNat)) S else .no
        | _ => .no
      | _ => .no
    | _ => .no

def deep : Nat := 60
def cmpI (a b : PV) (f : Int → Int → Bool) : Option Bool := match a with
  | .int i => match b with
    | .int j => some (f i j)
    | _ => none
  | _ => none
def isNone : PV → Option Bool
  | .non => some true
  | .ty _ => none
  | .box _ => none
  | .xc _ _ => none
  | _ => some false
def eqD (a b : PV) : Option Bool := if a.shp deep && b.shp deep then some (a.beq b) else none
def isIn (S : Sto) (a b : PV) : Option Bool := match seqOf S b with
  | some l => if (der S a).shp deep && PV.shps deep l then some (l.any fun z => z.beq (der S a)) else none
  | none => none
def oneg (o : Option Bool) : Option Bool := match o with
  | some b => some (!b)
  | none => none

def cmpop (o : Co) (a b : PV) (S : Sto) : Option Bool := match o with
  | .eq => eqD (der S a) (der S b)
  | .ne => oneg (eqD (der S a) (der S b))
  | .lt => cmpI a b fun i j => ilt i j
  | .le => cmpI a b fun i j => ile i j
  | .gt => cmpI a b fun i j => ilt j i
  | .ge => cmpI a b fun i j => ile j i
  | .is => match b with
    | .non => isNone a
    | _ => none
  | .isn => match b with
    | .non => oneg (isNone a)
    | _ => none
  | .inn => isIn S a b
  | .nin => oneg (isIn S a b)

def ixN (n : Nat) (i : Int) : Option Nat := match i with
  | .ofNat m => if Nat.blt m n then some m else none
  | .negSucc m => if Nat.blt m n then some (n - (m + 1)) else none
def getI (l : List PV) (i : Int) : Option PV := match ixN l.length i with
  | some j => l[j]?
  | none => none
def clip (n d : Nat) : Option Int → Nat
  | none => d
  | some (.ofNat m) => if Nat.ble m n then m else n
  | some (.negSucc m) => n - (m + 1)
def cut (l : List PV) (lo hi : Option Int) : List PV := (l.drop (clip l.length 0 lo)).take (clip l.length l.length hi - clip l.length 0 lo)
def oint : PV → Option (Option Int)
  | .non => some none
  | .int i => some (some i)
  | _ => none
/-- every k-th -/
def every (k : Nat) : Nat → List PV → List PV
  | 0, _ => []
  | _, [] => []
  | f + 1, x :: xs => x :: every k f (xs.drop (k - 1))
def slice (l : List PV) (lo hi : PV) : Option (List PV) := match oint lo with
  | some a => match oint hi with
    | some b => some (cut l a b)
    | none => none
  | none => none
def cutStr (x : Str) (lo hi : Option Int) : Str := ⟨((x.cps.toList.drop (clip x.cps.size 0 lo)).take (clip x.cps.size x.cps.size hi - clip x.cps.size 0 lo)).toArray⟩
def sliceV (bx : Bool) (v lo hi : PV) (S : Sto) : R PV := match v with
  | .str x => withO (oint lo) fun a => withO (oint hi) fun b => .ok (.str (cutStr x a b)) S
  | .tup l => withO (slice l lo hi) fun r => mkT r S
  | v => withO (seqOf S v) fun l => withO (slice l lo hi) fun r => mk bx r S
def revV (bx : Bool) (v : PV) (S : Sto) : R PV := match v with
  | .tup l => mkT l.reverse S
  | v => withO (seqOf S v) fun l => mk bx l.reverse S
def evrV (bx : Bool) (v lo : PV) (k : Nat) (S : Sto) : R PV := withO (oint lo) fun a => if Nat.blt 1 k then match v with
  | .tup l => mkT (every k l.length (cut l a none)) S
  | v => withO (seqOf S v) fun l => mk bx (every k l.length (cut l a none)) S
  else .no
def idxV (v i : PV) (S : Sto) : R PV := match i with
  | .int i => match v with
    | .str x => match ixN x.cps.size i with
      | some j => .ok (.str ⟨#[x.cps.toList.getD j 0]⟩) S
      | none => .no
    | v => withO (seqOf S v) fun l => opt (getI l i) S
  | _ => .no

inductive Kd | n | b | i | s | l | t
deriving DecidableEq
def kindOf : PV → Option Kd
  | .non => some .n
  | .bl _ => some .b
  | .int _ => some .i
  | .str _ => some .s
  | .lst _ => some .l
  | .klst _ => some .l
  | .tup _ => some .t
  | _ => none
def tyOf (t : String) : Option Kd := if t == "int" then some .i else if t == "bool" then some .b else if t == "str" then some .s else if t == "list" then some .l else if t == "tuple" then some .t else none
def isK (k t : Kd) : Bool := match k, t with
  | .b, .b => true
  | .b, .i => true
  | .i, .i => true
  | .s, .s => true
  | .l, .l => true
  | .t, .t => true
  | _, _ => false
def isKs (k : Kd) : List PV → Option Bool
  | [] => some false
  | .ty t :: r => match tyOf t with
    | some t => match isKs k r with
      | some b => some (isK k t || b)
      | none => none
    | none => none
  | _ => none
def isi (v t : PV) : Option Bool := match kindOf v with
  | some k => match t with
    | .ty t => match tyOf t with
      | some t => some (isK k t)
      | none => none
    | .tup ts => isKs k ts
    | _ => none
  | none => none

def intsL : List PV → Option (List Int)
  | [] => some []
  | .int i :: r => match intsL r with
    | some l => some (i :: l)
    | none => none
  | _ => none
def bools : List PV → Option (List Bool)
  | [] => some []
  | .bl i :: r => match bools r with
    | some l => some (i :: l)
    | none => none
  | _ => none
def isum : List Int → Int
  | [] => 0
  | x :: xs => x + isum xs
def imaxFrom (m : Int) : List Int → Int
  | [] => m
  | x :: xs => imaxFrom (if ilt m x then x else m) xs
def iminFrom (m : Int) : List Int → Int
  | [] => m
  | x :: xs => iminFrom (if ilt x m then x else m) xs
def imax : List Int → Option Int
  | [] => none
  | x :: xs => some (imaxFrom x xs)
def imin : List Int → Option Int
  | [] => none
  | x :: xs => some (iminFrom x xs)
def orAll : List Bool → Bool
  | [] => false
  | b :: r => if b then true else orAll r
def andAll : List Bool → Bool
  | [] => true
  | b :: r => if b then andAll r else false

mutual
/-- < of data, where Python tells it -/
def PV.lt : PV → PV → Option Bool
  | .int a, .int b => some (ilt a b)
  | .str a, .str b => some (decide (a.cps.toList < b.cps.toList))
  | .tup a, .tup b => PV.lts a b
  | .lst a, .lst b => PV.lts a b
  | _, _ => none
def PV.lts : List PV → List PV → Option Bool
  | [], [] => some false
  | [], _ => some true
  | _, [] => some false
  | a :: as, b :: bs => if PV.beq a b then PV.lts as bs else PV.lt a b
end
def insN (x : Int) : List Int → List Int
  | [] => [x]
  | y :: ys => if ilt y x then y :: insN x ys else x :: y :: ys
def sortI : List Int → List Int
  | [] => []
  | x :: xs => insN x (sortI xs)
def insD (x : PV) : List PV → Option (List PV)
  | [] => some [x]
  | y :: ys => match PV.lt y x with
    | some true => match insD x ys with
      | some l => some (y :: l)
      | none => none
    | some false => some (x :: y :: ys)
    | none => none
def sortD : List PV → Option (List PV)
  | [] => some []
  | x :: xs => match sortD xs with
    | some l => insD x l
    | none => none

mutual
/-- data that < can compare, place by place -/
def PV.alk : PV → PV → Bool
  | .int _, .int _ => true
  | .str _, .str _ => true
  | .tup a, .tup b => PV.alks a b
  | .lst a, .lst b => PV.alks a b
  | _, _ => false
def PV.alks : List PV → List PV → Bool
  | a :: as, b :: bs => PV.alk a b && PV.alks as bs
  | _, _ => true
end
def oB (o : Option Bool) (b : Bool) : Bool := match o with
  | some c => c == b
  | none => false
/-- a stands ahead of b, or is the same -/
def okPair (a b : PV) : Bool := PV.alk a b && oB (PV.lt b a) false && (oB (PV.lt a b) true || PV.same a b)
def sorted2 : List PV → Bool
  | [] => true
  | a :: r => PV.alk a a && r.all (okPair a) && sorted2 r
def neTup : PV → Bool
  | .tup (_ :: _) => true
  | _ => false
def noTup : PV → Bool
  | .tup _ => false
  | .non => false
  | _ => true
def isIntL (S : Sto) (v : PV) : Bool := match v with
  | .tup _ => false
  | v => match seqOf S v with
    | some l => (intsL l).isSome
    | none => false
def sortO (bx : Bool) (v : PV) (S : Sto) : R PV := match v with
  | .tup _ => .no
  | v => withO (seqOf S v) fun l => match intsL l with
    | some ns => if Nat.blt ns.length 64 then mk bx ((sortI ns).map .int) S else .no
    | none => .no
def sortV (bx : Bool) (v : PV) (S : Sto) : R PV := withO (seqOf S v) fun l => if PV.shps deep l && (l.all neTup || l.all noTup) then match sortD l with
    | some r => if sorted2 r then mk bx r S else .no
    | none => .no else .no
def blt (b : Bl) (bx : Bool) (vs : List PV) (S : Sto) : R PV := match vs with
  | [v] => match b with
    | .len => match v with
      | .str x => .ok (.int x.cps.size) S
      | v => withO (seqOf S v) fun l => .ok (.int l.length) S
    | .abs => match v with
      | .int i => .ok (.int (if ilt i 0 then -i else i)) S
      | _ => .no
    | .int => match v with
      | .int i => .ok (.int i) S
      | .bl b => .ok (.int (if b then 1 else 0)) S
      | _ => .no
    | .list => withO (seqOf S v) fun l => mk bx l S
    | .tuple => withO (seqOf S v) fun l => mkT l S
    | .sum => withO (seqOf S v) fun l => withO (intsL l) fun l => .ok (.int (isum l)) S
    | .any => withO (lstOf S v) fun l => withO (bools l) fun l => .ok (.bl (orAll l)) S
    | .all => withO (lstOf S v) fun l => withO (bools l) fun l => .ok (.bl (andAll l)) S
    | .max => withO (seqOf S v) fun l => withO (intsL l) fun l => withO (imax l) fun i => .ok (.int i) S
    | .min => withO (seqOf S v) fun l => withO (intsL l) fun l => withO (imin l) fun i => .ok (.int i) S
    | .sorted => if isIntL S v then sortO bx v S else sortV bx v S
    | _ => .no
  | [v, w] => match b with
    | .isi => withO (isi (der S v) w) fun b => .ok (.bl b) S
    | .max2 => match v with
      | .int i => match w with
        | .int j => .ok (.int (if ilt i j then j else i)) S
        | _ => .no
      | _ => .no
    | .min2 => match v with
      | .int i => match w with
        | .int j => .ok (.int (if ilt j i then j else i)) S
        | _ => .no
      | _ => .no
    | _ => .no
  | _ => .no

def firstIx (x : PV) : List PV → Nat → Option Nat
  | [], _ => none
  | y :: ys, k => if y.beq x then some k else firstIx x ys (k + 1)
def countD (x : PV) : List PV → Nat
  | [] => 0
  | y :: ys => if y.beq x then countD x ys + 1 else countD x ys

def mth (m : Mt) (o : PV) (vs : List PV) (S : Sto) : R PV := match vs with
  | [x] => match m with
    | .index => withO (seqOf S o) fun l => if PV.shp deep (der S x) && PV.shps deep l then withO (firstIx (der S x) l 0) fun k => .ok (.int k) S else .no
    | .count => withO (seqOf S o) fun l => if PV.shp deep (der S x) && PV.shps deep l then .ok (.int (countD (der S x) l)) S else .no
    | _ => .no
  | _ => .no

/-- a name's value -/
def getV (ρ : Env) (i : Nat) (S : Sto) : R PV := match ρ[i]? with
  | some (some v) => .ok v S
  | _ => .no

mutual
def store (S : Sto) : Tg → PV → Env → Option Env
  | .nm i, v, ρ => if Nat.blt i ρ.length then some (ρ.set i (some v)) else none
  | .tup l, v, ρ => match v with
    | .tup vs => stores S l vs ρ
    | .lst vs => stores S l vs ρ
    | .box n => match getB S n with
      | some vs => stores S l vs ρ
      | none => none
    | _ => none
  | _, _, _ => none
def stores (S : Sto) : Tg → List PV → Env → Option Env
  | .nil, [], ρ => some ρ
  | .cons h t, v :: vs, ρ => match store S h v ρ with
    | some ρ' => stores S t vs ρ'
    | none => none
  | _, _, _ => none
end

def wipes (ρ : Env) : List Nat → Env
  | [] => ρ
  | i :: r => (wipes ρ r).set i none

/-- where the items come from: a box must stay as it is -/
def stays (b : Option Nat) (l : List PV) (S : Sto) : Bool := match b with
  | none => true
  | some n => match getB S n with
    | some l' => PV.sames l l'
    | none => false
def isTup : PV → Bool
  | .tup _ => true
  | _ => false
def boxOf : PV → Option Nat
  | .box n => some n
  | _ => none

def lcLoop (b : Option Nat) (all : List PV) (step : PV → Sto → R (List PV)) : List PV → Sto → R (List PV)
  | [], S => if stays b all S then .ok [] S else .no
  | x :: xs, S => if stays b all S then match step x S with
    | .ok r S1 => match lcLoop b all step xs S1 with
      | .ok r2 S2 => .ok (r ++ r2) S2
      | _ => .no
    | _ => .no else .no

def range1 (lo : Int) : Nat → List PV
  | 0 => []
  | n + 1 => .int lo :: range1 (lo + 1) n
def rangeOf (vs : List PV) : Option (List PV) := match vs with
  | [.int n] => if ilt (-1000000) n && ilt n 1000000 then some (range1 0 n.toNat) else none
  | [.int a, .int b] => if ilt (-1000000) a && ilt a 1000000 && ilt (-1000000) b && ilt b 1000000 then some (range1 a (b - a).toNat) else none
  | _ => none
def enumL : Nat → List PV → List PV
  | _, [] => []
  | k, x :: xs => .tup [.int k, x] :: enumL (k + 1) xs
def zipL : List PV → List PV → List PV
  | x :: xs, y :: ys => .tup [x, y] :: zipL xs ys
  | _, _ => []
def zipT : List PV → List PV → List PV → List PV
  | x :: xs, y :: ys, z :: zs => .tup [x, y, z] :: zipT xs ys zs
  | _, _, _ => []
def signs (x : Str) : List PV := x.cps.toList.map fun k => .str ⟨#[k]⟩
def items (S : Sto) (v : PV) : Option (List PV) := match v with
  | .str x => some (signs x)
  | v => seqOf S v

/-! ### calls: the boxes among the arguments are handed over, by their order -/
def boxes : List PV → List Nat
  | [] => []
  | .box n :: r => n :: boxes r
  | _ :: r => boxes r
def renum : Nat → List PV → List PV
  | _, [] => []
  | k, .box _ :: r => .box k :: renum (k + 1) r
  | k, v :: r => v :: renum k r
/-- no box but at the top -/
def okArgs : List PV → Bool
  | [] => true
  | .box _ :: r => okArgs r
  | v :: r => v.nob && okArgs r
def hasN (n : Nat) : List Nat → Bool
  | [] => false
  | m :: r => if Nat.beq m n then true else hasN n r
def nodup : List Nat → Bool
  | [] => true
  | n :: r => !hasN n r && nodup r
def grab (S : Sto) : List Nat → Option Sto
  | [] => some []
  | n :: r => match getB S n, grab S r with
    | some l, some ls => some (some l :: ls)
    | _, _ => none
def putBack (S : Sto) : List Nat → Sto → Sto
  | [], _ => S
  | _, [] => S
  | n :: r, l :: ls => putBack (S.set n l) r ls
def giveBack (bs : List Nat) (v : PV) (S S1 : Sto) : R PV := match v with
  | .box n => match bs[n]? with
    | some b => .ok (.box b) S
    | none => match getB S1 n with
      | some l => if PV.nobs l then .ok (.box S.length) (S ++ [some l]) else .no
      | none => .no
  | v => if v.nob then .ok v S else .no
/-- the contents handed over and back hold no box -/
def plainS : Sto → Bool
  | [] => true
  | some l :: r => PV.nobs l && plainS r
  | none :: r => plainS r
def invoke (f : List PV → Sto → R PV) (vs : List PV) (S : Sto) : R PV :=
  if nodup (boxes vs) && okArgs vs then match grab S (boxes vs) with
    | some S0 => if plainS S0 then match f (renum 0 vs) S0 with
      | .ok v S1 => if plainS (S1.take (boxes vs).length) then giveBack (boxes vs) v (putBack S (boxes vs) S1) S1 else .no
      | .ex c S1 => if PV.nobs c.args && plainS (S1.take (boxes vs).length) then .ex c (putBack S (boxes vs) S1) else .no
      | .no => .no else .no
    | none => .no
  else .no

/-- numbers, texts, truth values, None -/
def flat : PV → Bool
  | .non => true
  | .bl _ => true
  | .int _ => true
  | .str _ => true
  | _ => false
def flats : List PV → Bool
  | [] => true
  | v :: r => flat v && flats r
def ders (S : Sto) : List PV → List PV
  | [] => []
  | v :: r => derB S v :: ders S r
/-- the lists of the store are lent: the call tells no more than a number, a text, a truth value, None -/
def lend (f : List PV → Sto → R PV) (vs : List PV) (S : Sto) : R PV :=
  if PV.nobs (ders S vs) then match f (ders S vs) [] with
    | .ok v _ => if flat v then .ok v S else .no
    | .ex c _ => if flats c.args then .ex c S else .no
    | .no => .no
  else .no

def perm (ix : List Nat) (vs : List PV) : Option (List PV) := match ix with
  | [] => some []
  | i :: r => match vs[i]?, perm r vs with
    | some v, some l =>
          some (v :: l)
    | _, _ => none

section
variable (call : Nat → List PV → Sto → R PV) (cons : Nat → Option PV) (isx : Nat → String → Bool)
def ev : Ex → Env → Sto → R PV
  | .non, _, S => .ok .non S
  | .bl b, _, S => .ok (.bl b) S
  | .int i, _, S => .ok (.int i) S
  | .str x, _, S => .ok (.str x) S
  | .gty t, _, S => .ok (.ty t) S
  | .var i, ρ, S => getV ρ i S
  | .gfn f, _, S => .ok (.fn f) S
  | .gcn g, _, S => opt (cons g) S
  | .nil, _, S => .ok (.lst []) S
  | .cons h t, ρ, S => (ev h ρ S).bind fun v S1 => (ev t ρ S1).bind fun r S2 => withL r fun vs => .ok (.lst (v :: vs)) S2
  | .tup es, ρ, S => (ev es ρ S).bind fun r S1 => withL r fun vs => mkT vs S1
  | .lst bx es, ρ, S => (ev es ρ S).bind fun r S1 => withL r fun vs => mk bx vs S1
  | .bin o bx a b, ρ, S => (ev a ρ S).bind fun v S1 => (ev b ρ S1).bind fun w S2 => binop o bx v w S2
  | .neg a, ρ, S => (ev a ρ S).bind fun v S1 => match v with
    | .int i => .ok (.int (-i)) S1
    | _ => .no
  | .not a, ρ, S => (ev a ρ S).bind fun v S1 => withO (truth S1 v) fun b => .ok (.bl (!b)) S1
  | .and a b, ρ, S => (ev a ρ S).bind fun v S1 => withO (truth S1 v) fun t => if t then ev b ρ S1 else .ok v S1
  | .or a b, ρ, S => (ev a ρ S).bind fun v S1 => withO (truth S1 v) fun t => if t then .ok v S1 else ev b ρ S1
  | .cmp o a b, ρ, S => (ev a ρ S).bind fun v S1 => (ev b ρ S1).bind fun w S2 => withO (cmpop o v w S2) fun r => .ok (.bl r) S2
  | .chn o o' a b d, ρ, S => (ev a ρ S).bind fun v S1 => (ev b ρ S1).bind fun w S2 => withO (cmpop o v w S2) fun r =>
      if r then (ev d ρ S2).bind fun z S3 => withO (cmpop o' w z S3) fun r => .ok (.bl r) S3 else .ok (.bl false) S2
  | .ite t a b, ρ, S => (ev t ρ S).bind fun v S1 => withO (truth S1 v) fun t => if t then ev a ρ S1 else ev b ρ S1
  | .idx a b, ρ, S => (ev a ρ S).bind fun v S1 => (ev b ρ S1).bind fun i S2 => idxV v i S2
  | .abs, _, S => .ok .non S
  | .prt e, ρ, S => (ev e ρ S).bind fun v S1 => match v with
    | .int i => .ok (.int i) S1
    | _ => .no
  | .slc bx a lo hi, ρ, S => (ev a ρ S).bind fun v S1 => (ev lo ρ S1).bind fun l S2 => (ev hi ρ S2).bind fun h S3 => sliceV bx v l h S3
  | .rev bx a, ρ, S => (ev a ρ S).bind fun v S1 => revV bx v S1
  | .evr bx a lo k, ρ, S => (ev a ρ S).bind fun v S1 => (ev lo ρ S1).bind fun l S2 => evrV bx v l k S2
  | .lc bx own cl, ρ, S => (ev cl (wipes ρ own) S).bind fun r S1 => withL r fun vs => mk bx vs S1
  | .one e, ρ, S => (ev e ρ S).bind fun v S1 => .ok (.lst [v]) S1
  | .cl t it cond rest, ρ, S => (ev it ρ S).bind fun v S1 => withO (items S1 v) fun l =>
      (lcLoop (boxOf v) l (fun x S2 => withO (store S2 t x ρ) fun ρ' => (ev cond ρ' S2).bind fun w S3 => withO (truth S3 w) fun b =>
        if b then (ev rest ρ' S3).bind fun r S4 => withL r fun vs => .ok vs S4 else .ok [] S3) l S1).bind fun vs S5 => .ok (.lst vs) S5
  | .irng es, ρ, S => (ev es ρ S).bind fun r S1 => withL r fun vs => withO (rangeOf vs) fun l => .ok (.lst l) S1
  | .ienu e, ρ, S => (ev e ρ S).bind fun v S1 => match v with
    | .lst l => .ok (.lst (enumL 0 l)) S1
    | .klst l => .ok (.lst (enumL 0 l)) S1
    | .tup l => .ok (.lst (enumL 0 l)) S1
    | _ => .no
  | .izip a b, ρ, S => (ev a ρ S).bind fun v S1 => (ev b ρ S1).bind fun w S2 => withO (seqOf S2 v) fun x => withO (seqOf S2 w) fun y =>
      match boxOf v, boxOf w with
      | none, none => .ok (.lst (zipL x y)) S2
      | _, _ => .no
  | .izt a b c, ρ, S => (ev a ρ S).bind fun v S1 => (ev b ρ S1).bind fun w S2 => (ev c ρ S2).bind fun u S3 => withO (seqOf S3 v) fun x => withO (seqOf S3 w) fun y => withO (seqOf S3 u) fun z =>
      match boxOf v, boxOf w, boxOf u with
      | none, none, none => .ok (.lst (zipT x y z)) S3
      | _, _, _ => .no
  | .call f es, ρ, S => (ev es ρ S).bind fun r S1 => withL r fun vs => invoke (call f) vs S1
  | .calv f es, ρ, S => (ev es ρ S).bind fun r S1 => withL r fun vs => lend (call f) vs S1
  | .calk f ix es, ρ, S => (ev es ρ S).bind fun r S1 => withL r fun vs => withO (perm ix vs) fun ws => invoke (call f) ws S1
  | .cale e es, ρ, S => (ev e ρ S).bind fun v S1 => match v with
    | .fn f => (ev es ρ S1).bind fun r S2 => withL r fun vs => invoke (call f) vs S2
    | _ => .no
  | .blt b bx es, ρ, S => (ev es ρ S).bind fun r S1 => withL r fun vs => blt b bx vs S1
  | .maxd es d, ρ, S => (ev es ρ S).bind fun v S1 => (ev d ρ S1).bind fun w S2 => withO (lstOf S2 v) fun l => withO (intsL l) fun l => match imax l with
    | some i => .ok (.int i) S2
    | none => .ok w S2
  | .mth m bx o es, ρ, S => (ev o ρ S).bind fun v S1 => withO (seqOf S1 v) fun _ => (ev es ρ S1).bind fun r S2 => withL r fun vs => mth m v vs S2
  | .frz e, ρ, S => (ev e ρ S).bind fun v S1 => match v with
    | .box n => withO (getB S1 n) fun l => .ok (.lst l) (S1.set n none)
    | v => .ok v S1
  | .fld o, ρ, S => (ev o ρ S).bind fun v S1 => match v with
    | .xc _ [v] => .ok v S1
    | _ => .no
  | .isx o t, ρ, S => (ev o ρ S).bind fun v S1 => match v with
    | .xc c _ => .ok (.bl (isx c t)) S1
    | _ => .no

def noxE : Env → Bool
  | [] => true
  | some v :: r => v.nox && noxE r
  | none :: r => noxE r
def noxS : Sto → Bool
  | [] => true
  | some l :: r => PV.noxs l && noxS r
  | none :: r => noxS r

/-- what a statement comes to -/
inductive F where
  | nx (ρ : Env) (S : Sto) | bk (ρ : Env) (S : Sto) | ct (ρ : Env) (S : Sto) | rt (v : PV) (S : Sto) | ex (c : Xc) (ρ : Env) (S : Sto) | no

def F.then (f : F) (k : Env → Sto → F) : F := match f with
  | .nx ρ S => k ρ S
  | f => f
def onR {α : Type} (r : R α) (ρ : Env) (k : α → Sto → F) : F := match r with
  | .ok v S => k v S
  | .ex c S => .ex c ρ S
  | .no => .no
def onO {α : Type} (o : Option α) (k : α → F) : F := match o with
  | some a => k a
  | none => .no

def forLoop (b : Option Nat) (all : List PV) (step : PV → Env → Sto → F) : List PV → Env → Sto → F
  | [], ρ, S => if stays b all S then .nx ρ S else .no
  | x :: xs, ρ, S => if stays b all S then match step x ρ S with
    | .nx ρ1 S1 => forLoop b all step xs ρ1 S1
    | .ct ρ1 S1 => forLoop b all step xs ρ1 S1
    | .bk ρ1 S1 => .nx ρ1 S1
    | f => f else .no
def whlLoop (test : Env → Sto → R Bool) (step : Env → Sto → F) : Nat → Env → Sto → F
  | 0, _, _ => .no
  | n + 1, ρ, S => onR (test ρ S) ρ fun t S1 => if t then match step ρ S1 with
      | .nx ρ1 S2 => whlLoop test step n ρ1 S2
      | .ct ρ1 S2 => whlLoop test step n ρ1 S2
      | .bk ρ1 S2 => .nx ρ1 S2
      | f => f
    else .nx ρ S1

def augO (o : Bo) (x y : PV) : Option PV := match x with
  | .int x => match y with
    | .int y => match o with
      | .add => some (.int (x + y))
      | .sub => some (.int (x - y))
      | _ => none
    | _ => none
  | _ => none
/-- o[i] of a box -/
def augG (S : Sto) (o i : PV) : Option PV := match o with
  | .box n => match i with
    | .int k => match getB S n with
      | some l => getI l k
      | none => none
    | _ => none
  | _ => none
/-- o[i] = v -/
def putI (ρ : Env) (S : Sto) (o i v : PV) : F := match o with
  | .box n => match i with
    | .int k => onO (getB S n) fun l => onO (ixN l.length k) fun j => .nx ρ (S.set n (some (l.set j v)))
    | _ => .no
  | _ => .no
/-- what names nothing beyond the store -/
def within (k : Nat) : PV → Bool
  | .box n => Nat.blt n k
  | v => v.nob
def trim (k : Nat) : Env → Env
  | [] => []
  | some v :: r => (if within k v then some v else none) :: trim k r
  | none :: r => none :: trim k r

mutual
/-- nb: how many boxes were handed in; wf: turns of a while at the most -/
def sx (nb wf : Nat) : Sm → Env → Sto → F
  | .nil, ρ, S => .nx ρ S
  | .seq s r, ρ, S => (sx nb wf s ρ S).then fun ρ1 S1 => sx nb wf r ρ1 S1
  | .asg t e, ρ, S => onR (ev call cons isx e ρ S) ρ fun v S1 => onO (store S1 t v ρ) fun ρ1 => .nx ρ1 S1
  | .par t es, ρ, S => onR (ev call cons isx es ρ S) ρ fun v S1 => match v with
    | .lst vs => onO (stores S1 t vs ρ) fun ρ1 => .nx ρ1 S1
    | _ => .no
  | .sub o i e, ρ, S => onR (ev call cons isx e ρ S) ρ fun v S1 => onR (ev call cons isx o ρ S1) ρ fun o S2 => onR (ev call cons isx i ρ S2) ρ fun i S3 => putI ρ S3 o i v
  | .aug i o e, ρ, S => onR (getV ρ i S) ρ fun a S0 => onR (ev call cons isx e ρ S0) ρ fun b S1 => onO (augO o a b) fun v => .nx (ρ.set i (some v)) S1
  | .augs a i o e, ρ, S => onR (ev call cons isx a ρ S) ρ fun a S1 => onR (ev call cons isx i ρ S1) ρ fun i S2 => onO (augG S2 a i) fun x => onR (ev call cons isx e ρ S2) ρ fun y S3 => onO (augO o x y) fun v => putI ρ S3 a i v
  | .app o e, ρ, S => onR (ev call cons isx o ρ S) ρ fun o S1 => match o with
    | .box n => onO (getB S1 n) fun _ => onR (ev call cons isx e ρ S1) ρ fun v S2 => onO (getB S2 n) fun l => if Nat.blt l.length lim then .nx ρ (S2.set n (some (l ++ [v]))) else .no
    | _ => .no
  | .pop o, ρ, S => onR (ev call cons isx o ρ S) ρ fun o S1 => match o with
    | .box n => onO (getB S1 n) fun l => match l with
      | [] => .no
      | x :: xs => .nx ρ (S1.set n (some (x :: xs).dropLast))
    | _ => .no
  | .ex e, ρ, S => onR (ev call cons isx e ρ S) ρ fun _ S1 => .nx ρ S1
  | .ife t a b, ρ, S => onR (ev call cons isx t ρ S) ρ fun v S1 => onO (truth S1 v) fun t => if t then sx nb wf a ρ S1 else sx nb wf b ρ S1
  | .for t it b, ρ, S => onR (ev call cons isx it ρ S) ρ fun v S1 => onO (items S1 v) fun l =>
      forLoop (boxOf v) l (fun x ρ1 S2 => onO (store S2 t x ρ1) fun ρ2 => sx nb wf b ρ2 S2) l ρ S1
  | .whl t b, ρ, S => whlLoop (fun ρ1 S1 => (ev call cons isx t ρ1 S1).bind fun v S2 => opt (truth S2 v) S2) (fun ρ1 S1 => sx nb wf b ρ1 S1) wf ρ S
  | .ret e, ρ, S => onR (ev call cons isx e ρ S) ρ fun v S1 => .rt v S1
  | .retN, ρ, S => .rt .non S
  | .brk, ρ, S => .bk ρ S
  | .cnt, ρ, S => .ct ρ S
  | .pas, ρ, S => .nx ρ S
  | .rai c es, ρ, S => onR (ev call cons isx es ρ S) ρ fun v S1 => match v with
    | .lst vs => .ex ⟨c, vs⟩ ρ S1
    | _ => .no
  | .try b hs, ρ, S => match sx nb wf b ρ S with
    | .ex c ρ1 S1 => hx nb wf hs c ρ1 S1
    | f => f
  | .hnd _ _ _ _, _, _ => .no
  | .frz i, ρ, S => match ρ[i]? with
    | some (some (.box n)) => onO (getB S n) fun l => .nx (ρ.set i (some (.lst l))) (S.set n none)
    | _ => .nx ρ S
  | .gc, ρ, S => .nx ρ S
/-- the clauses of a try -/
def hx (nb wf : Nat) : Sm → Xc → Env → Sto → F
  | .hnd c n b r, x, ρ, S => if isx x.cls "ValueError" || isx x.cls "LookupError" then if Nat.beq c x.cls then match n with
      | none => match sx nb wf b ρ S with
        | .ex _ _ _ => .no
        | f => f
      | some i => if noxE ρ && noxS S && x.args.isEmpty then match sx nb wf b (ρ.set i (some (.xc x.cls x.args))) S with
        | .nx ρ1 S1 => if noxE (ρ1.set i none) && noxS S1 then .nx (ρ1.set i none) S1 else .no
        | .rt v S1 => if v.nox && noxS S1 then .rt v S1 else .no
        | _ => .no else .no
    else hx nb wf r x ρ S else .no
  | .nil, x, ρ, S => .ex x ρ S
  | _, _, _, _ => .no
end
end

structure Fn where
  np : Nat
  ns : Nat
  body : Sm

/-- a def of the table at k calls, one in another -/
def run (T : Nat → Option Fn) (cons : Nat → Option PV) (isx : Nat → String → Bool) (wf : Nat) : Nat → Nat → List PV → Sto → R PV
  | 0, _, _, _ => .no
  | k + 1, f, vs, S => withO (T f) fun d => if Nat.beq vs.length d.np then match sx (run T cons isx wf k) cons isx S.length wf d.body (vs.map some ++ List.replicate (d.ns - d.np) none) S with
      | .nx _ S1 => .ok .non S1
      | .rt v S1 => .ok v S1
      | .ex c _ S1 => .ex c S1
      | _ => .no
    else .no
end Rn
/-! The runner is right: relations. -/
namespace Rn
open L2 PySem PyProof.Rows PySem.Spec

abbrev Mp := List (Option Addr)

/-- where the defs and the classes of exceptions lie; the name of a class's field -/
structure Ad where
  fa : Nat → Addr
  ca : Nat → Addr
  fd : Nat → Str

/-- the frame's own: the written part, the addresses, the lists of the store of the frames around -/
structure Fm where
  K : PySem.W.Frag
  A : Ad
  Bo : Addr → Prop
  Xr : Nat → V → Prop

def KLst (K : PySem.W.Frag) (a : Addr) (xs : List V) : Prop :=
  ∃ (o : Obj) (its : Array Value) (n : Nat), K.lookup a = some o ∧ o.cls = .type "list" ∧
        o.dict = none ∧ o.data = .seq its n ∧ its.size ≤ sizeLine ∧ Vals xs its.toList
def KTup (K : PySem.W.Frag) (a : Addr) (xs : List V) : Prop :=
  ∃ (o : Obj) (its : Array Value) (n : Nat), K.lookup a = some o ∧ o.cls = .type "tuple" ∧ o.dict = none ∧ o.data = .seq its n ∧ its.size ≤ sizeLine ∧ Vals xs its.toList

/-- no list that may change: neither here nor around -/
def Free (Φ : Fm) (m : Mp) (a : Addr) : Prop := ¬ Φ.Bo a ∧ some a ∉ m

def RdL (Φ : Fm) (m : Mp) (H : Hp) (a : Addr) (xs : List V) : Prop := H a = some (.lst xs) ∧ Free Φ m a
/-- also a list of the written part -/
def RdK (Φ : Fm) (m : Mp) (H : Hp) (a : Addr) (xs : List V) : Prop := KLst Φ.K a xs ∨ (Rd H a (.lst xs) ∧ Free Φ m a)
/-- a tuple whose very object is known -/
def ATup (H : Hp) (a : Addr) (xs : List V) : Prop := ∃ o : Obj, H a = some (.frz o (.tup xs)) ∧ o.cls = .type "tuple" ∧ o.dict = none
def RdT (Φ : Fm) (m : Mp) (H : Hp) (a : Addr) (xs : List V) : Prop := KTup Φ.K a xs ∨ (ATup H a xs ∧ Free Φ m a)

mutual
def RelP (Φ : Fm) (m : Mp) (H : Hp) : PV → V → Prop
  | .non, v => v = .non
  | .bl b, v => v = .bl b
  | .int i, v => v = .int i
  | .str x, v => v = .str x ∧ x.cps.size ≤ lim
  | .tup l, v => ∃ a xs, v = .ref a ∧ RdT Φ m H a xs ∧ RelPs Φ m H l xs
  | .lst l, v => ∃ a xs, v = .ref a ∧ RdL Φ m H a xs ∧ RelPs Φ m H l xs
  | .klst l, v => ∃ a xs, v = .ref a ∧ RdK Φ m H a xs ∧ RelPs Φ m H l xs
  | .box n, v => ∃ o, m[n]? = some o ∧ ∀ a, o = some a → v = .ref a
  | .fn f, v => v = .ref (Φ.A.fa f)
  | .ty t, v => v = .ty t
  | .xc c _, v => Φ.Xr c v
def RelPs (Φ : Fm) (m : Mp) (H : Hp) : List PV → List V → Prop
  | [], vs => vs = []
  | p :: ps, vs => ∃ v vr, vs = v :: vr ∧ RelP Φ m H p v ∧ RelPs Φ m H ps vr
end

/-- the lists of the store lie where m says -/
structure RelS (Φ : Fm) (m : Mp) (S : Sto) (H : Hp) : Prop where
  len : m.length = S.length
  at_ : ∀ (n : Nat) (a : Addr), m[n]? = some (some a) → ∃ xs vs, S[n]? = some (some xs) ∧ H a = some (.lst vs) ∧ RelPs Φ m H xs vs ∧ ¬ Φ.Bo a
  dead : ∀ (n : Nat), m[n]? = some none → S[n]? = some none
  inj : ∀ (i j : Nat) (a : Addr), m[i]? = some (some a) → m[j]? = some (some a) → i = j
  bo : ∀ a, Φ.Bo a → H a ≠ none

def RelE (Φ : Fm) (m : Mp) (H : Hp) (ρ : Env) (σ : L2.St) : Prop :=
  ρ.length = σ.length ∧ ∀ (i : Nat) (p : PV), ρ[i]? = some (some p) → ∃ v, σ[i]? = some (some v) ∧ RelP Φ m H p v

/-- what stood and was no list of the store stands -/
structure Ext (m : Mp) (H : Hp) (m' : Mp) (H' : Hp) : Prop where
  keep : ∀ a o, H a = some o → some a ∉ m → H' a = some o ∧ some a ∉ m'
  len : m.length ≤ m'.length
  ix : ∀ (n : Nat) o, m[n]? = some o → m'[n]? = some o ∨ m'[n]? = some none

section
variable {Φ : Fm} {m m1 m2 : Mp} {H H1 H2 : Hp} {S : Sto} {ρ : Env} {σ : L2.St}

theorem Ext.refl : Ext m H m H := ⟨fun _ _ h n => ⟨h, n⟩, Nat.le_refl _, fun _ _ h => .inl h⟩
theorem Ext.trans (a : Ext m H m1 H1) (b : Ext m1 H1 m2 H2) : Ext m H m2 H2 where
  keep := fun x o h n => by
    obtain ⟨h1, n1⟩ := a.keep x o h n
    exact b.keep x o h1 n1
  len := Nat.le_trans a.len b.len
  ix := fun n o h => by
    rcases a.ix n o h with h1 | h1
    · exact b.ix n o h1
    · rcases b.ix n none h1 with h2 | h2 <;> exact .inr h2

theorem mem_of_at {m : Mp} {n : Nat} {a : Addr} (h : m[n]? = some (some a)) : some a ∈ m := List.mem_of_getElem? h
theorem at_of_mem {m : Mp} {a : Addr} (h : some a ∈ m) : ∃ n : Nat, m[n]? = some (some a) := by
  obtain ⟨n, hn, e⟩ := List.getElem_of_mem h
  exact ⟨n, by rw [List.getElem?_eq_getElem hn, e]⟩

theorem RdL.ext {a : Addr} {xs : List V} (e : Ext m H m1 H1) (h : RdL Φ m H a xs) : RdL Φ m1 H1 a xs := by
  obtain ⟨h, b, n⟩ := h
  obtain ⟨h1, n1⟩ := e.keep a _ h n
  exact ⟨h1, b, n1⟩
theorem RdK.ext {a : Addr} {xs : List V} (e : Ext m H m1 H1) (h : RdK Φ m H a xs) : RdK Φ m1 H1 a xs := by
  rcases h with h | ⟨h | ⟨o, h⟩, b, n⟩
  · exact .inl h
  · obtain ⟨h1, n1⟩ := e.keep a _ h n
    exact .inr ⟨.inl h1, b, n1⟩
  · obtain ⟨h1, n1⟩ := e.keep a _ h n
    exact .inr ⟨.inr ⟨o, h1⟩, b, n1⟩
theorem RdT.ext {a : Addr} {xs : List V} (e : Ext m H m1 H1) (h : RdT Φ m H a xs) : RdT Φ m1 H1 a xs := by
  rcases h with h | ⟨⟨o, h, c, d⟩, b, n⟩
  · exact .inl h
  · obtain ⟨h1, n1⟩ := e.keep a _ h n
    exact .inr ⟨⟨o, h1, c, d⟩, b, n1⟩
theorem RdL.sq {a : Addr} {xs : List V} (h : RdL Φ m H a xs) : SqL Φ.K H a xs := SqL.of h.1
theorem RdK.sq {a : Addr} {xs : List V} (h : RdK Φ m H a xs) : SqL Φ.K H a xs := by
  rcases h with h | ⟨h, _⟩
  · exact .inr h
  · exact .inl h
theorem RdT.sq {a : Addr} {xs : List V} (h : RdT Φ m H a xs) : SqT Φ.K H a xs := by
  rcases h with ⟨o, its, n, h1, h2, _, h3, h4, h5⟩ | ⟨⟨o, h, _, _⟩, _⟩
  · exact .inr ⟨o, its, n, h1, h2, h3, h4, h5⟩
  · exact .inl (.inr ⟨o, h⟩)

mutual
theorem RelP.ext (e : Ext m H m1 H1) : ∀ {p : PV} {v : V}, RelP Φ m H p v → RelP Φ m1 H1 p v
  | .non, _, h => by simpa only [RelP] using h
  | .bl _, _, h => by simpa only [RelP] using h
  | .int _, _, h => by simpa only [RelP] using h
  | .str _, _, h => by simpa only [RelP] using h
  | .fn _, _, h => by simpa only [RelP] using h
  | .ty _, _, h => by simpa only [RelP] using h
  | .xc _ _, _, h => by simpa only [RelP] using h
  | .box n, v, h => by
    simp only [RelP] at h ⊢
    obtain ⟨o, h1, h2⟩ := h
    rcases e.ix n o h1 with h3 | h3
    · exact ⟨o, h3, h2⟩
    · exact ⟨none, h3, fun a z => nomatch z⟩
  | .tup l, v, h => by
    simp only [RelP] at h ⊢
    obtain ⟨a, xs, h1, h2, h3⟩ := h
    exact ⟨a, xs, h1, h2.ext e, RelPs.ext e h3⟩
  | .lst l, v, h => by
    simp only [RelP] at h ⊢
    obtain ⟨a, xs, h1, h2, h3⟩ := h
    exact ⟨a, xs, h1, h2.ext e, RelPs.ext e h3⟩
  | .klst l, v, h => by
    simp only [RelP] at h ⊢
    obtain ⟨a, xs, h1, h2, h3⟩ := h
    exact ⟨a, xs, h1, h2.ext e, RelPs.ext e h3⟩
theorem RelPs.ext (e : Ext m H m1 H1) : ∀ {ps : List PV} {vs : List V}, RelPs Φ m H ps vs → RelPs Φ m1 H1 ps vs
  | [], _, h => by simpa only [RelPs] using h
  | p :: ps, vs, h => by
    simp only [RelPs] at h ⊢
    obtain ⟨v, vr, h1, h2, h3⟩ := h
    exact ⟨v, vr, h1, RelP.ext e h2, RelPs.ext e h3⟩
end
theorem RelE.ext (e : Ext m H m1 H1) (h : RelE Φ m H ρ σ) : RelE Φ m1 H1 ρ σ := ⟨h.1, fun i p q => by
  obtain ⟨v, h1, h2⟩ := h.2 i p q
  exact ⟨v, h1, h2.ext e⟩⟩

theorem RelS.box (s : RelS Φ m S H) {n : Nat} {l : List PV} (h : getB S n = some l) : ∃ a vs, m[n]? = some (some a) ∧ H a = some (.lst vs) ∧ RelPs Φ m H l vs ∧ ¬ Φ.Bo a := by
  unfold getB at h
  have hs : S[n]? = some (some l) := by
    split at h
    · rename_i l' e
      cases h
      exact e
    · cases h
  have hn : n < m.length := by
    rw [s.len]
    exact (List.getElem?_eq_some_iff.mp hs).1
  cases e : m[n]'hn with
  | none =>
    have := s.dead n (by rw [List.getElem?_eq_getElem hn, e])
    rw [hs] at this
    cases this
  | some a =>
    have q : m[n]? = some (some a) := by rw [List.getElem?_eq_getElem hn, e]
    obtain ⟨xs, vs, h1, h2, h3, h4⟩ := s.at_ n a q
    rw [hs] at h1
    cases h1
    exact ⟨a, vs, q, h2, h3, h4⟩
theorem RelS.lst_at (s : RelS Φ m S H) {a : Addr} (h : some a ∈ m) : ∃ vs, H a = some (.lst vs) := by
  obtain ⟨n, hn⟩ := at_of_mem h
  obtain ⟨_, vs, _, h2, _⟩ := s.at_ n a hn
  exact ⟨vs, h2⟩
theorem RelS.free (s : RelS Φ m S H) {p : Addr} (h : H p = none) : Free Φ m p := ⟨fun b => s.bo p b h, fun z => by
  obtain ⟨vs, e⟩ := s.lst_at z
  rw [h] at e
  cases e⟩

/-- a new object that is no list of the store -/
theorem Ext.new (s : RelS Φ m S H) {p : Addr} {o : HO} (h : H p = none) : Ext m H m (upd H p o) where
  keep := fun a u e n => ⟨by
    rw [upd_ne (ne_of_none e h)]
    exact e, n⟩
  len := Nat.le_refl _
  ix := fun _ _ h => .inl h
theorem RelS.new (s : RelS Φ m S H) {p : Addr} {o : HO} (h : H p = none) : RelS Φ m S (upd H p o) where
  len := s.len
  at_ := fun n a e => by
    obtain ⟨xs, vs, h1, h2, h3, h4⟩ := s.at_ n a e
    refine ⟨xs, vs, h1, ?_, h3.ext (Ext.new s h), h4⟩
    rw [upd_ne (ne_of_none h2 h)]
    exact h2
  dead := s.dead
  inj := s.inj
  bo := fun a b => by
    rw [upd_ne (fun z => s.bo a b (by rw [z]; exact h))]
    exact s.bo a b
/-- a new list of the store -/
theorem Ext.newB (s : RelS Φ m S H) {p : Addr} {xs : List V} (h : H p = none) : Ext m H (m ++ [some p]) (upd H p (.lst xs)) where
  keep := fun a u e n => ⟨by
    rw [upd_ne (ne_of_none e h)]
    exact e, fun z => by
    rcases List.mem_append.mp z with z | z
    · exact n z
    · have q : a = p := by simpa using z
      rw [q, h] at e
      cases e⟩
  len := by rw [List.length_append]; exact Nat.le_add_right _ _
  ix := fun n o e => .inl (by
    rw [List.getElem?_append_left (List.getElem?_eq_some_iff.mp e).1]
    exact e)
theorem RelS.newB (s : RelS Φ m S H) {p : Addr} {l : List PV} {xs : List V} (h : H p = none) (r : RelPs Φ m H l xs) : RelS Φ (m ++ [some p]) (S ++ [some l]) (upd H p (.lst xs)) where
  len := by rw [List.length_append, List.length_append, s.len]; rfl
  at_ := fun n a e => by
    by_cases hn : n < m.length
    · rw [List.getElem?_append_left hn] at e
      obtain ⟨ys, vs, h1, h2, h3, h4⟩ := s.at_ n a e
      refine ⟨ys, vs, ?_, ?_, h3.ext (Ext.newB s h), h4⟩
      · rw [List.getElem?_append_left (by rw [← s.len]; exact hn)]
        exact h1
      · rw [upd_ne (ne_of_none h2 h)]
        exact h2
    · rw [List.getElem?_append_right (Nat.le_of_not_lt hn)] at e
      have hz : n - m.length = 0 := by
        have := (List.getElem?_eq_some_iff.mp e).1
        simp only [List.length_singleton] at this
        omega
      rw [hz] at e
      have e' : p = a := by simpa using e
      subst e'
      refine ⟨l, xs, ?_, upd_same, r.ext (Ext.newB s h), fun b => s.bo p b h⟩
      rw [List.getElem?_append_right (by rw [← s.len]; exact Nat.le_of_not_lt hn), ← s.len, hz]
      rfl
  dead := fun n e => by
    by_cases hn : n < m.length
    · rw [List.getElem?_append_left hn] at e
      rw [List.getElem?_append_left (by rw [← s.len]; exact hn)]
      exact s.dead n e
    · rw [List.getElem?_append_right (Nat.le_of_not_lt hn)] at e
      have hz : n - m.length = 0 := by
        have := (List.getElem?_eq_some_iff.mp e).1
        simp only [List.length_singleton] at this
        omega
      rw [hz] at e
      simp at e
  inj := fun i j a e1 e2 => by
    have key : ∀ k, (m ++ [some p])[k]? = some (some a) → (k < m.length ∧ m[k]? = some (some a)) ∨ (k = m.length ∧ a = p) := fun k e => by
      by_cases hk : k < m.length
      · rw [List.getElem?_append_left hk] at e
        exact .inl ⟨hk, e⟩
      · rw [List.getElem?_append_right (Nat.le_of_not_lt hk)] at e
        have hz : k - m.length = 0 := by
          have := (List.getElem?_eq_some_iff.mp e).1
          simp only [List.length_singleton] at this
          omega
        rw [hz] at e
        have e' : p = a := by simpa using e
        exact .inr ⟨by omega, e'.symm⟩
    have no : ∀ k, m[k]? = some (some a) → a ≠ p := fun k e z => by
      obtain ⟨_, vs, _, h2, _⟩ := s.at_ k a e
      rw [z, h] at h2
      cases h2
    rcases key i e1 with ⟨_, a1⟩ | ⟨a1, b1⟩ <;> rcases key j e2 with ⟨_, a2⟩ | ⟨a2, b2⟩
    · exact s.inj i j a a1 a2
    · exact absurd b2 (no i a1)
    · exact absurd b1 (no j a2)
    · rw [a1, a2]
  bo := fun a b => by
    rw [upd_ne (fun z => s.bo a b (by rw [z]; exact h))]
    exact s.bo a b

theorem RelPs.length : ∀ {ps : List PV} {vs : List V}, RelPs Φ m H ps vs → ps.length = vs.length
  | [], _, h => by
    simp only [RelPs] at h
    rw [h]
    rfl
  | p :: ps, vs, h => by
    simp only [RelPs] at h
    obtain ⟨v, vr, h1, _, h3⟩ := h
    rw [h1, List.length_cons, List.length_cons, RelPs.length h3]
theorem RelPs.get : ∀ {ps : List PV} {vs : List V} {i : Nat} {p : PV}, RelPs Φ m H ps vs → ps[i]? = some p → ∃ v, vs[i]? = some v ∧ RelP Φ m H p v
  | [], _, _, _, _, e => by simp at e
  | p :: ps, vs, i, q, h, e => by
    simp only [RelPs] at h
    obtain ⟨v, vr, h1, h2, h3⟩ := h
    subst h1
    cases i with
    | zero =>
      have e' : p = q := by simpa using e
      subst e'
      exact ⟨v, rfl, h2⟩
    | succ i =>
      obtain ⟨u, e1, e2⟩ := RelPs.get (i := i) h3 (by simpa using e)
      exact ⟨u, by simpa using e1, e2⟩
theorem RelPs.of_get : ∀ {ps : List PV} {vs : List V}, ps.length = vs.length → (∀ (i : Nat) p v, ps[i]? = some p → vs[i]? = some v → RelP Φ m H p v) → RelPs Φ m H ps vs
  | [], [], _, _ => by simp only [RelPs]
  | [], _ :: _, h,
        _ => by simp at h
  | _ :: _, [], h,
        _ => by simp at h
  | p :: ps, v :: vs, h, k => by
    simp only [RelPs]
    exact ⟨v, vs, rfl, k 0 p v rfl rfl, RelPs.of_get (by simpa using h) fun i q u e1 e2 => k (i + 1) q u (by simpa using e1) (by simpa using e2)⟩
theorem RelPs.append {ps qs : List PV} {vs ws : List V} (a : RelPs Φ m H ps vs) (b : RelPs Φ m H qs ws) : RelPs Φ m H (ps ++ qs) (vs ++ ws) := by
  refine RelPs.of_get (by rw [List.length_append, List.length_append, a.length, b.length]) fun i p v e1 e2 => ?_
  by_cases hi : i < ps.length
  · rw [List.getElem?_append_left hi] at e1
    rw [List.getElem?_append_left (by rw [← a.length]; exact hi)] at e2
    obtain ⟨u, h1, h2⟩ := a.get e1
    rw [e2] at h1
    cases h1
    exact h2
  · rw [List.getElem?_append_right (Nat.le_of_not_lt hi)] at e1
    rw [List.getElem?_append_right (by rw [← a.length]; exact Nat.le_of_not_lt hi), ← a.length] at e2
    obtain ⟨u, h1, h2⟩ := b.get e1
    rw [e2] at h1
    cases h1
    exact h2
theorem RelPs.nil : RelPs Φ m H [] [] := by simp only [RelPs]
theorem RelPs.cons {p : PV} {v : V} {ps : List PV} {vs : List V} (a : RelP Φ m H p v) (b : RelPs Φ m H ps vs) : RelPs Φ m H (p :: ps) (v :: vs) := by
  simp only [RelPs]
  exact ⟨v, vs, rfl, a, b⟩
/-- a list of places of ps, taken of vs -/
theorem RelPs.pick {ps qs : List PV} {vs ws : List V} (a : RelPs Φ m H ps vs) (f : Nat → Nat) (hl : qs.length = ws.length) (h1 : ∀ i, i < qs.length → qs[i]? = ps[f i]?) (h2 : ∀ i, i < qs.length → ws[i]? = vs[f i]?) : RelPs Φ m H qs ws := by
  refine RelPs.of_get hl fun i p v e1 e2 => ?_
  have hi := (List.getElem?_eq_some_iff.mp e1).1
  rw [h1 i hi] at e1
  rw [h2 i hi] at e2
  obtain ⟨u, q1, q2⟩ := a.get e1
  rw [e2] at q1
  cases q1
  exact q2
theorem RelPs.take {ps : List PV} {vs : List V} (n : Nat) (a : RelPs Φ m H ps vs) : RelPs Φ m H (ps.take n) (vs.take n) := by
  refine a.pick id (by rw [List.length_take, List.length_take, a.length]) (fun i hi => ?_) (fun i hi => ?_)
  · rw [List.length_take] at hi
    exact List.getElem?_take_of_lt (by omega)
  · rw [List.length_take] at hi
    exact List.getElem?_take_of_lt (by omega)
theorem RelPs.drop {ps : List PV} {vs : List V} (n : Nat) (a : RelPs Φ m H ps vs) : RelPs Φ m H (ps.drop n) (vs.drop n) := by
  refine a.pick (fun i => n + i) (by rw [List.length_drop, List.length_drop, a.length]) (fun i hi => ?_) (fun i hi => ?_)
  · rw [List.getElem?_drop]
  · rw [List.getElem?_drop]
theorem RelPs.reverse {ps : List PV} {vs : List V} (a : RelPs Φ m H ps vs) : RelPs Φ m H ps.reverse vs.reverse := by
  have hl := a.length
  refine a.pick (fun i => ps.length - 1 - i) (by rw [List.length_reverse, List.length_reverse, a.length]) (fun i hi => ?_) (fun i hi => ?_)
  · rw [List.length_reverse] at hi
    exact List.getElem?_reverse hi
  · rw [List.length_reverse] at hi
    rw [List.getElem?_reverse (by rw [← hl]; exact hi), ← hl]
theorem RelPs.set {ps : List PV} {vs : List V} {p : PV} {v : V} (j : Nat) (a : RelPs Φ m H ps vs) (b : RelP Φ m H p v) : RelPs Φ m H (ps.set j p) (vs.set j v) := by
  refine RelPs.of_get (by rw [List.length_set, List.length_set, a.length]) fun i q u e1 e2 => ?_
  by_cases hi : j = i
  · subst hi
    have hj : j < ps.length := by
      have := (List.getElem?_eq_some_iff.mp e1).1
      rw [List.length_set] at this
      exact this
    rw [List.getElem?_set_self hj] at e1
    rw [List.getElem?_set_self (by rw [← a.length]; exact hj)] at e2
    cases e1
    cases e2
    exact b
  · rw [List.getElem?_set_ne hi] at e1 e2
    obtain ⟨w, q1, q2⟩ := a.get e1
    rw [e2] at q1
    cases q1
    exact q2
end
end Rn
set_option maxHeartbeats 1000007
/-! The runner is right: expressions, piece by piece. -/
namespace Rn
open L2 PySem PyProof.Rows PySem.Spec

/-- an exception as the runner tells it -/
def RelX (Φ : Fm) (m : Mp) (H : Hp) (c : Xc) (cls : Value) (d : Option Addr) : Prop :=
  cls = .ref (Φ.A.ca c.cls) ∧ PV.nobs c.args = true ∧ match c.args with
    | [] => d = none
    | [p] => ∃ dd v, d = some dd ∧ H dd = some (.xd [(Φ.A.fd c.cls, v)]) ∧ some dd ∉ m ∧ RelP Φ m H p v
    | _ => False

/-- what is wanted behind an expression -/
def PostE (Φ : Fm) (W : WX) (m : Mp) (H : Hp) (σ : L2.St) (r : R PV) (Q : VK) : Prop := match r with
  | .ok p S => ∀ m' H' v, Ext m H m' H' → RelS Φ m' S H' → RelP Φ m' H' p v → Q v H'
  | .ex c S => ∀ cls d m' H', Ext m H m' H' → RelS Φ m' S H' → RelX Φ m' H' c cls d → W cls d σ H'
  | .no => False
def PostA (Φ : Fm) (W : WX) (m : Mp) (H : Hp) (σ : L2.St) (r : R PV) (Q : List V → Hp → Prop) : Prop := match r with
  | .ok p S => ∃ l, p = .lst l ∧ ∀ m' H' vs, Ext m H m' H' → RelS Φ m' S H' → RelPs Φ m' H' l vs → Q vs H'
  | .ex c S => ∀ cls d m' H', Ext m H m' H' → RelS Φ m' S H' → RelX Φ m' H' c cls d → W cls d σ H'
  | .no => False
def PostT (Φ : Fm) (W : WX) (m : Mp) (H : Hp) (σ : L2.St) (r : R PV) (Q : Bool → Hp → Prop) : Prop := match r with
  | .ok p S => ∃ b, truth S p = some b ∧ ∀ m' H', Ext m H m' H' → RelS Φ m' S H' → Q b H'
  | .ex c S => ∀ cls d m' H', Ext m H m' H' → RelS Φ m' S H' → RelX Φ m' H' c cls d → W cls d σ H'
  | .no => False
abbrev Run := Env → Sto → R PV
/-- the reading that the runner gives -/
def tR (Φ : Fm) (W : WX) (f : Run) : TE := fun σ H Q => ∃ m ρ S, RelS Φ m S H ∧ RelE Φ m H ρ σ ∧ PostE Φ W m H σ (f ρ S) Q
def tRA (Φ : Fm) (W : WX) (f : Run) : TA := fun σ H Q => ∃ m ρ S, RelS Φ m S H ∧ RelE Φ m H ρ σ ∧ PostA Φ W m H σ (f ρ S) Q
def tRT (Φ : Fm) (W : WX) (f : Run) : TT := fun σ H Q => ∃ m ρ S, RelS Φ m S H ∧ RelE Φ m H ρ σ ∧ PostT Φ W m H σ (f ρ S) Q

theorem PE.of {X : Cx} {e : Expr} {t t' : TE} (h : PE X e t) (k : ∀ σ H Q, t' σ H Q → t σ H Q) : PE X e t' := ⟨fun pins s σ H Q I q => h.run pins s σ H Q I (k σ H Q q)⟩
theorem PT.of {X : Cx} {e : Expr} {t t' : TT} (h : PT X e t) (k : ∀ σ H Q, t' σ H Q → t σ H Q) : PT X e t' := ⟨fun pins s σ H Q I q => h.run pins s σ H Q I (k σ H Q q)⟩
theorem PA.of {X : Cx} {e : List Expr} {t t' : TA} (h : PA X e t) (k : ∀ σ H Q, t' σ H Q → t σ H Q) : PA X e t' := ⟨fun pos pins s σ H Q I q => h.run pos pins s σ H Q I (k σ H Q q)⟩

section
variable {Φ : Fm} {W : WX} {m m1 : Mp} {H H1 : Hp} {S : Sto} {ρ : Env} {σ : L2.St}
theorem PostE.ext (e : Ext m H m1 H1) : ∀ {r : R PV} {Q : VK}, PostE Φ W m H σ r Q → PostE Φ W m1 H1 σ r Q
  | .ok _ _, _, h => fun m' H' v e1 s r => h m' H' v (e.trans e1) s r
  | .ex _ _, _, h => fun cls d m' H' e1 s r => h cls d m' H' (e.trans e1) s r
  | .no, _, h => h
theorem PostA.ext (e : Ext m H m1 H1) : ∀ {r : R PV} {Q : List V → Hp → Prop}, PostA Φ W m H σ r Q → PostA Φ W m1 H1 σ r Q
  | .ok _ _, _, ⟨l, e0, h⟩ => ⟨l, e0, fun m' H' v e1 s r => h m' H' v (e.trans e1) s r⟩
  | .ex _ _, _, h => fun cls d m' H' e1 s r => h cls d m' H' (e.trans e1) s r
  | .no, _, h => h
theorem PostT.ext (e : Ext m H m1 H1) : ∀ {r : R PV} {Q : Bool → Hp → Prop}, PostT Φ W m H σ r Q → PostT Φ W m1 H1 σ r Q
  | .ok _ _, _, ⟨b, e0, h⟩ => ⟨b, e0, fun m' H' e1 s => h m' H' (e.trans e1) s⟩
  | .ex _ _, _, h => fun cls d m' H' e1 s r => h cls d m' H' (e.trans e1) s r
  | .no, _, h => h

/-- an expression, then what hangs on its value -/
theorem chain {f : Run} {g : PV → Sto → R PV} {Q Q1 : VK} (s : RelS Φ m S H) (e : RelE Φ m H ρ σ) (h : PostE Φ W m H σ ((f ρ S).bind g) Q)
    (k : ∀ p S1 m1 H1 v, Ext m H m1 H1 → RelS Φ m1 S1 H1 → RelE Φ m1 H1 ρ σ → RelP Φ m1 H1 p v → PostE Φ W m1 H1 σ (g p S1) Q → Q1 v H1) : tR Φ W f σ H Q1 := by
  refine ⟨m, ρ, S, s, e, ?_⟩
  cases hr : f ρ S with
  | ok p S1 =>
    rw [hr] at h
    exact fun m1 H1 v e1 s1 r1 => k p S1 m1 H1 v e1 s1 (e.ext e1) r1 (PostE.ext e1 h)
  | ex c S1 =>
    rw [hr] at h
    exact h
  | no =>
    rw [hr] at h
    exact h
theorem chainT {f : Run} {g : PV → Sto → R PV} {Q : VK} {Q1 : Bool → Hp → Prop} (s : RelS Φ m S H) (e : RelE Φ m H ρ σ) (h : PostE Φ W m H σ ((f ρ S).bind fun p S1 => withO (truth S1 p) fun b => g (.bl b) S1) Q)
    (k : ∀ b S1 m1 H1, Ext m H m1 H1 → RelS Φ m1 S1 H1 → RelE Φ m1 H1 ρ σ → PostE Φ W m1 H1 σ (g (.bl b) S1) Q → Q1 b H1) : tRT Φ W f σ H Q1 := by
  refine ⟨m, ρ, S, s, e, ?_⟩
  cases hr : f ρ S with
  | ok p S1 =>
    rw [hr] at h
    have h' : PostE Φ W m H σ (withO (truth S1 p) fun b => g (.bl b) S1) Q := h
    cases ht : truth S1 p with
    | none =>
      rw [ht] at h'
      exact False.elim h'
    | some b =>
      rw [ht] at h'
      exact ⟨b, ht, fun m1 H1 e1 s1 => k b S1 m1 H1 e1 s1 (e.ext e1) (PostE.ext e1 h')⟩
  | ex c S1 =>
    rw [hr] at h
    exact h
  | no =>
    rw [hr] at h
    exact h
theorem chainA {f : Run} {g : List PV → Sto → R PV} {Q : VK} {Q1 : List V → Hp → Prop} (s : RelS Φ m S H) (e : RelE Φ m H ρ σ) (h : PostE Φ W m H σ ((f ρ S).bind fun r S1 => withL r fun l => g l S1) Q)
    (k : ∀ l S1 m1 H1 vs, Ext m H m1 H1 → RelS Φ m1 S1 H1 → RelE Φ m1 H1 ρ σ → RelPs Φ m1 H1 l vs → PostE Φ W m1 H1 σ (g l S1) Q → Q1 vs H1) : tRA Φ W f σ H Q1 := by
  refine ⟨m, ρ, S, s, e, ?_⟩
  cases hr : f ρ S with
  | ok p S1 =>
    rw [hr] at h
    have h' : PostE Φ W m H σ (withL p fun l => g l S1) Q := h
    cases p with
    | lst l => exact ⟨l, rfl, fun m1 H1 v e1 s1 r1 => k l S1 m1 H1 v e1 s1 (e.ext e1) r1 (PostE.ext e1 h')⟩
    | _ => exact False.elim h'
  | ex c S1 =>
    rw [hr] at h
    exact h
  | no =>
    rw [hr] at h
    exact h
theorem fin {p : PV} {v : V} {Q : VK} (h : PostE Φ W m H σ (.ok p S) Q) (s : RelS Φ m S H) (r : RelP Φ m H p v) : Q v H := h m H v Ext.refl s r
theorem finA {l : List PV} {vs : List V} {Q : List V → Hp → Prop} (h : PostA Φ W m H σ (.ok (.lst l) S) Q) (s : RelS Φ m S H) (r : RelPs Φ m H l vs) : Q vs H := by
  obtain ⟨l', e, h⟩ := h
  cases e
  exact h m H vs Ext.refl s r

/-! ### truth -/
theorem size_lim {n : Nat} (h : n ≤ lim) : n ≤ sizeLine := Nat.le_trans h (by rw [sizeLine_eq]; decide)
theorem truth_ok (s : RelS Φ m S H) {p : PV} {v : V} {b : Bool} (r : RelP Φ m H p v) (h : truth S p = some b) : TruV Φ.K v H b := by
  cases p with
  | non =>
    simp only [RelP] at r
    subst r
    have h : some false = some b := h
    cases h
    rfl
  | bl c =>
    simp only [RelP] at r
    subst r
    have h : some c = some b := h
    cases h
    rfl
  | int i =>
    simp only [RelP] at r
    subst r
    have h : some (!(i == 0)) = some b := h
    cases h
    rfl
  | str x =>
    simp only [RelP] at r
    obtain ⟨r, hz⟩ := r
    subst r
    have h : some (!(Nat.beq x.cps.size 0)) = some b := h
    cases h
    refine ⟨size_lim hz, ?_⟩
    show (!(Nat.beq x.cps.size 0)) = ((x.cps.size : Int) != 0)
    cases hn : x.cps.size with
    | zero => rfl
    | succ n =>
      have e1 : (((n + 1 : Nat) : Int) != 0) = true := bne_iff_ne.mpr (by omega)
      rw [e1]
      rfl
  | tup l =>
    simp only [RelP] at r
    obtain ⟨a, xs, e, h1, h2⟩ := r
    subst e
    have h : some (!l.isEmpty) = some b := h
    cases h
    refine Or.inr (Or.inl ⟨xs, h1.sq, ?_⟩)
    have := h2.length
    cases l <;> cases xs <;> simp_all
  | lst l =>
    simp only [RelP] at r
    obtain ⟨a, xs, e, h1, h2⟩ := r
    subst e
    have h : some (!l.isEmpty) = some b := h
    cases h
    refine Or.inl ⟨xs, h1.sq, ?_⟩
    have := h2.length
    cases l <;> cases xs <;> simp_all
  | klst l =>
    simp only [RelP] at r
    obtain ⟨a, xs, e, h1, h2⟩ := r
    subst e
    have h : some (!l.isEmpty) = some b := h
    cases h
    refine Or.inl ⟨xs, h1.sq, ?_⟩
    have := h2.length
    cases l <;> cases xs <;> simp_all
  | box n =>
    simp only [RelP] at r
    obtain ⟨o, h1, h2⟩ := r
    unfold truth at h
    simp only at h
    split at h
    · rename_i l e
      cases h
      obtain ⟨a, vs, q1, q2, q3, _⟩ := s.box e
      rw [q1] at h1
      cases h1
      have := h2 a rfl
      subst this
      refine Or.inl ⟨vs, SqL.of q2, ?_⟩
      have := q3.length
      cases l <;> cases vs <;> simp_all
    · cases h
  | fn f => cases h
  | ty t => cases h
  | xc c l => cases h

/-! ### what is read as a list, as a sequence -/
theorem lst_ok (s : RelS Φ m S H) {p : PV} {v : V} {l : List PV} (r : RelP Φ m H p v) (h : lstOf S p = some l) : ∃ a xs, v = .ref a ∧ H a = some (.lst xs) ∧ RelPs Φ m H l xs := by
  cases p with
  | lst l' =>
    simp only [RelP] at r
    obtain ⟨a, xs, e, h1, h2⟩ := r
    cases h
    exact ⟨a, xs, e, h1.1, h2⟩
  | box n =>
    simp only [RelP] at r
    obtain ⟨o, h1, h2⟩ := r
    obtain ⟨a, vs, q1, q2, q3, _⟩ := s.box (n := n) h
    rw [q1] at h1
    cases h1
    exact ⟨a, vs, h2 a rfl, q2, q3⟩
  | _ => cases h
theorem seq_ok (s : RelS Φ m S H) {p : PV} {v : V} {l : List PV} (r : RelP Φ m H p v) (h : seqOf S p = some l) : ∃ a xs, v = .ref a ∧ (SqL Φ.K H a xs ∨ SqT Φ.K H a xs) ∧ RelPs Φ m H l xs := by
  cases p with
  | tup l' =>
    simp only [RelP] at r
    obtain ⟨a, xs, e, h1, h2⟩ := r
    cases h
    exact ⟨a, xs, e, .inr h1.sq, h2⟩
  | lst l' =>
    obtain ⟨a, xs, h1, h2, h3⟩ := lst_ok s r (l := l) h
    exact ⟨a, xs, h1, .inl (SqL.of h2), h3⟩
  | klst l' =>
    simp only [RelP] at r
    obtain ⟨a, xs, e, h1, h2⟩ := r
    cases h
    exact ⟨a, xs, e, .inl h1.sq, h2⟩
  | box n =>
    obtain ⟨a, xs, h1, h2, h3⟩ := lst_ok s r (l := l) h
    exact ⟨a, xs, h1, .inl (SqL.of h2), h3⟩
  | _ => cases h

/-! ### new lists and tuples -/
theorem mk_ok {bx : Bool} {l : List PV} {xs : List V} {Q : VK} {p : Addr} (s : RelS Φ m S H) (r : RelPs Φ m H l xs) (h : PostE Φ W m H σ (mk bx l S) Q) (hp : H p = none) : xs.length ≤ lim ∧ Q (.ref p) (upd H p (.lst xs)) := by
  unfold mk at h
  split at h
  · rename_i hz
    have hz' : l.length ≤ lim := Nat.le_of_ble_eq_true hz
    rw [r.length] at hz'
    refine ⟨hz', ?_⟩
    cases bx with
    | true =>
      refine h _ _ _ (Ext.newB s hp) (s.newB hp r) ?_
      simp only [RelP]
      refine ⟨some p, ?_, fun a z => by cases z; rfl⟩
      rw [← s.len, List.getElem?_append_right (Nat.le_refl _), Nat.sub_self]
      rfl
    | false =>
      refine h _ _ _ (Ext.new s hp) (s.new hp) ?_
      simp only [RelP]
      exact ⟨p, xs, rfl, ⟨upd_same, s.free hp⟩, r.ext (Ext.new s hp)⟩
  · exact False.elim h
theorem mk_len {bx : Bool} {l : List PV} {Q : VK} (h : PostE Φ W m H σ (mk bx l S) Q) : l.length ≤ lim := by
  unfold mk at h
  split at h
  · rename_i hz
    exact Nat.le_of_ble_eq_true hz
  · exact False.elim h
theorem mkT_len {l : List PV} {Q : VK} (h : PostE Φ W m H σ (mkT l S) Q) : l.length ≤ lim := by
  unfold mkT at h
  split at h
  · rename_i hz
    exact Nat.le_of_ble_eq_true hz
  · exact False.elim h
/-- what is wanted of a new tuple -/
def NewT (H : Hp) (xs : List V) (Q : VK) : Prop := ∀ (p : Addr) (o : Obj), H p = none → o.cls = .type "tuple" → o.dict = none → Q (.ref p) (upd H p (.frz o (.tup xs)))
theorem mkT_ok {l : List PV} {xs : List V} {Q : VK} (s : RelS Φ m S H) (r : RelPs Φ m H l xs) (h : PostE Φ W m H σ (mkT l S) Q) : NewT H xs Q := fun p o hp hc hd => by
  unfold mkT at h
  split at h
  · refine h _ _ _ (Ext.new s hp) (s.new hp) ?_
    simp only [RelP]
    exact ⟨p, xs, rfl, .inr ⟨⟨o, upd_same, hc, hd⟩, s.free hp⟩, r.ext (Ext.new s hp)⟩
  · exact False.elim h
/-- .. where the tuple stands already -/
theorem mkT_old {l : List PV} {xs : List V} {Q : VK} {a : Addr} (s : RelS Φ m S H) (h1 : RdT Φ m H a xs) (r : RelPs Φ m H l xs) (h : PostE Φ W m H σ (mkT l S) Q) : Q (.ref a) H := by
  unfold mkT at h
  split at h
  · refine h _ _ _ Ext.refl s ?_
    simp only [RelP]
    exact ⟨a, xs, rfl, h1, r⟩
  · exact False.elim h
end
end Rn
set_option maxHeartbeats 1000007
/-! The runner is right: operators. -/
namespace Rn
open L2 PySem PyProof.Rows PySem.Spec

/-- a tuple as it stands at l -/
abbrev tupO (dd : Option Addr) (items : Array Value) (n : Nat) (sl : Array (Option Value)) : Obj := { cls := .type "tuple", dict := dd, data := .seq items n, slots := sl }
abbrev mulA (l : Addr) (x : Int) (u : Tok) : Args := ⟨[.ref l, .int x u], []⟩
theorem tuple_mul0 (l : Addr) (items : Array Value) (n : Nat) (dd : Option Addr) (sl : Array (Option Value)) (x : Int) (u : Tok) (big : (decide (x < -(2 ^ 63)) || decide (x ≥ 2 ^ 63)) = false) (one : (items.isEmpty || x == 1) = false) (low : (decide (x ≤ 0) || items.isEmpty) = true) :
    Meets (Builtin.«tuple.__mul__» (mulA l x u)) fun _ R s => s.heap.get? l = some (tupO dd items n sl) ∧ R (.ok (.ret (Value.ref s.heap.objs.size))) { s with heap := s.heap.push { cls := Value.type "tuple", data := Data.seq #[] }, toks := s.toks } := Meets.of_wp fun prog w A R st ⟨held, last⟩ => by
  have f1 := AutoSeq1.idx_int
  cases st with
  | mk heap gens drawn toks os =>
    have no : ∀ {b : Bool}, b = false → decide (b = true) = false := fun e => by rw [e]; rfl
    wp_walk using (wpAny_loadPart' held)
    repeat (first
      | (refine wpAny_ite_false (no big) ?_; wp_walk using (wpAny_loadPart' held))
      | (refine wpAny_ite_false (no one) ?_; wp_walk using (wpAny_loadPart' held))
      | (refine wpAny_ite_true (decide_eq_true (by rw [low])) ?_; wp_walk using (wpAny_loadPart' held)))
    exact ⟨_, rfl, last⟩
theorem tuple_mul1 (l : Addr) (items : Array Value) (n : Nat) (dd : Option Addr) (sl : Array (Option Value)) (u : Tok) :
    Meets (Builtin.«tuple.__mul__» (mulA l 1 u)) fun _ R s => s.heap.get? l = some (tupO dd items n sl) ∧ R (.ok (.ret (Value.ref l))) s := Meets.of_wp fun prog w A R st ⟨held, last⟩ => by
  have f1 := AutoSeq1.idx_int
  have one : (items.isEmpty || (1 : Int) == 1) = true := by simp
  cases st with
  | mk heap gens drawn toks os =>
    wp_walk using (wpAny_loadPart' held)
    repeat (first
      | (refine wpAny_ite_false (decide_eq_false (by decide)) ?_; wp_walk using (wpAny_loadPart' held))
      | (refine wpAny_ite_true (decide_eq_true (by rw [one])) ?_; wp_walk using (wpAny_loadPart' held)))
    exact ⟨_, rfl, last⟩
theorem ilt_eq (a b : Int) : ilt a b = decide (a < b) := by
  have nb : ∀ m n : Nat, Nat.blt m n = decide (m < n) := fun m n => by
    rw [show Nat.blt m n = Nat.ble (m + 1) n from rfl]
    by_cases h : m < n
    · rw [decide_eq_true h]
      exact Nat.ble_eq_true_of_le h
    · rw [decide_eq_false h]
      cases e : Nat.ble (m + 1) n with
      | false => rfl
      | true => exact absurd (Nat.le_of_ble_eq_true e) h
  cases a with
  | ofNat m =>
    cases b with
    | ofNat n =>
      show Nat.blt m n = _
      rw [nb]
      exact decide_eq_decide.mpr (by simp only [Int.ofNat_eq_natCast]; omega)
    | negSucc n =>
      show false = _
      exact (decide_eq_false (by simp only [Int.ofNat_eq_natCast]; omega)).symm
  | negSucc m =>
    cases b with
    | ofNat n =>
      show true = _
      exact (decide_eq_true (by simp only [Int.ofNat_eq_natCast]; omega)).symm
    | negSucc n =>
      show Nat.blt n m = _
      rw [nb]
      apply decide_eq_decide.mpr
      omega
theorem ile_eq (a b : Int) : ile a b = decide (a ≤ b) := by
  unfold ile
  rw [ilt_eq]
  by_cases h : b < a
  · rw [decide_eq_true h, decide_eq_false (by omega)]
    rfl
  · rw [decide_eq_false h, decide_eq_true (by omega)]
    rfl
theorem ilt_true {a b : Int} (h : ilt a b = true) : a < b := of_decide_eq_true (by rw [← ilt_eq]; exact h)
theorem ile_true {a b : Int} (h : ile a b = true) : a ≤ b := of_decide_eq_true (by rw [← ile_eq]; exact h)
theorem and2 {a b : Bool} (h : (a && b) = true) : a = true ∧ b = true := Bool.and_eq_true_iff.mp h

section
variable {X : Cx} {Φ : Fm} {W : WX} {m m1 : Mp} {H H1 : Hp} {S : Sto} {ρ : Env} {σ : L2.St} {pos : Pos}

/-! ### tuples, their very objects known -/
theorem Inv.newT {pins : List (Addr × Obj)} {s : Shared} {ys : List V} {its : List Value} {h' : Heap} {t' : Nat} {p : Addr} (I : L2.Inv X pins σ H s) (r : Vals ys its) (hz : ys.length ≤ sizeLine)
    (k : ∀ b u, s.heap.get? b = some u → h'.get? b = some u) (hp : s.heap.objs.size ≤ p) (e : h'.get? p = some { cls := .type "tuple", data := .seq its.toArray }) :
    L2.Inv X pins σ (upd H p (.frz { cls := .type "tuple", data := .seq its.toArray } (.tup ys))) { s with heap := h', toks := t' } :=
  I.laid k hp ⟨e, hz, its, r, ⟨_, e, rfl, _, rfl⟩⟩
/-- a tuple is laid at the heap's end -/
theorem newT_end {pins : List (Addr × Obj)} {s : Shared} {ys : List V} {its : List Value} {Q : VK} (I : L2.Inv X pins σ H s) (r : Vals ys its) (hz : ys.length ≤ sizeLine) (q : NewT H ys Q) :
    EP X pins σ Q (.ref s.heap.objs.size) { s with heap := s.heap.push { cls := .type "tuple", data := .seq its.toArray } } :=
  ⟨.ref s.heap.objs.size, _, Inv.newT (t' := s.toks) I r hz (fun b ob e => Heap.get?_push_of_some _ e) (Nat.le_refl _) (Heap.get?_push_size _ rfl), rfl, q _ _ I.fresh rfl rfl⟩
def tTupF (t : TA) : TE := fun σ H Q => t σ H fun xs H1 => xs.length ≤ sizeLine ∧ NewT H1 xs Q
theorem pe_tupF {es : List Expr} {t : TA} {k : Nat} (h : PA X es t) : PE X (.Tuple es k pos) (tTupF t) :=
  ⟨fun pins s σ H Q I hq => wpAny_Tuple_spliced (thn (h.run pos pins s σ H _ I hq) fun us s1 ⟨xs, H1, I1, r, z, q⟩ =>
    ⟨by rw [← r.length]; exact z, newT_end I1 r z q⟩)⟩
/-- t + u -/
def rCatF (K : PySem.W.Frag) : R2 := fun x y H Q => ∃ a b xs ys, x = .ref a ∧ y = .ref b ∧ SqT K H a xs ∧ SqT K H b ys ∧ xs.length + ys.length ≤ sizeLine ∧
  (xs = [] → Q (.ref b) H) ∧ (ys = [] → Q (.ref a) H) ∧ NewT H (xs ++ ys) Q
theorem op_catF : OpR X (binaryOp .Add) (rCatF X.K) := by
  intro pins s σ H x y
  intro v u Q I rx ry h
  have zq19 := h
  obtain ⟨a, b, xs, ys, rfl, rfl, ha, hb, hz, q0, q1, q2⟩ := zq19
  cases rx
  cases ry
  obtain ⟨us, r1, p1, _⟩ := I.tuple ha
  obtain ⟨ws, r2, p2, _⟩ := I.tuple hb
  by_cases hx : xs = []
  · subst hx
    cases r1
    refine cat_tup0 p1 p2 ⟨.ref b, H, I, rfl, q0 rfl⟩
  · refine HT.cat_tup p1 p2 (fun z => hx (r1.nil_iff.mp z)) (fun z => ⟨.ref a, H, I, rfl, q1 (r2.nil_iff.mp z)⟩)
      (fun _ => newT_end I (r1.append r2) (by rw [List.length_append]; exact hz) q2) ?_
    rw [← r1.length, ← r2.length]
    exact hz
/-- t * k -/
def rRepF (K : PySem.W.Frag) : R2 := fun x y H Q => ∃ l k xs, x = .ref l ∧ y = .int k ∧ SqT K H l xs ∧ xs ≠ [] ∧ 2 ≤ k ∧ k ≤ 4000 ∧ xs.length ≤ 250 ∧ NewT H (List.replicate k.toNat xs).flatten Q
theorem op_repF : OpR X (binaryOp .Mult) (rRepF X.K) := by
  intro pins s σ H x y
  intro v u Q I rx ry h
  have zq22 := h
  obtain ⟨l, k, xs, rfl, rfl, hT, hne, h1, h2, hz, q⟩ := zq22
  cases rx
  obtain ⟨t, rfl⟩ := ry
  obtain ⟨us, r, ⟨⟨c0, d0, t0, s0⟩, ho, hc, n, hd⟩, hs⟩ := I.tuple hT
  simp only at hc hd
  subst hc hd
  have hl := r.length
  have em : us.toArray.isEmpty = false := by
    cases us with
    | nil => exact absurd (List.eq_nil_of_length_eq_zero hl) hne
    | cons a b => rfl
  have sz : us.toArray.size = xs.length := by rw [List.size_toArray, hl]
  have fl : ((List.replicate k.toNat us).flatten).length ≤ 1000000 := by
    rw [lm_len_rep_flat, ← hl]
    exact Nat.mul_le_mul (by omega : k.toNat ≤ 4000) hz
  have many : ((us.toArray.size : Nat) : Int) * k ≤ 1000000 := by
    rw [sz]
    have := Int.mul_le_mul_of_nonneg_right (a := ((xs.length : Nat) : Int)) (b := 250) (c := k) (by omega) (by omega)
    omega
  refine wpAny_binaryOp_repeat_ref (T := "tuple") (U := "int") (by decide) ⟨_, ho, rfl⟩ (fun s' => typeIs_int s' k t) noFill_tuple_mul
    PySem.F.fills_int_mul PySem.F.slot_int_rmul repeat_tuple PySem.F.slot_int_index.lookup (call_meets PySem.F.slot_int_rmul (typeIs_int s k t) PySem.F.entry_int_rmul
      (PySem.F.args_int_rmul_2 _ _) (int_rmul_tuple k t l us.toArray n d0 s0) ⟨ho, rfl, ⟨_, ho, rfl⟩, ?_⟩)
  refine call_meets PySem.F.slot_tuple_mul ⟨_, ho, rfl⟩ PySem.F.entry_tuple_mul (PySem.F.args_tuple_mul_2 _ _)
    (tuple_mulW l us.toArray n d0 s0 k t ?_ ?_ ?_ (by omega) ?_ ?_) ⟨ho, ?_⟩
  · rw [decide_eq_false (by omega), decide_eq_false (by omega)]
    rfl
  · rw [em, Bool.false_or]
    apply beq_eq_false_iff_ne.mpr
    omega
  · rw [em, Bool.or_false]
    apply decide_eq_false
    omega
  · unfold Builtin.Tuple.tupleTooMany
    rw [sizeLine_eq]
    apply decide_eq_false
    omega
  · rw [size_rep, List.size_toArray]
    rw [sizeLine_eq]
    omega
  · rw [size_rep]
    refine newT_end I (r.rep k.toNat) ?_ q
    rw [lm_len_rep_flat, sizeLine_eq]
    have := Nat.mul_le_mul (by omega : k.toNat ≤ 4000) hz
    omega
/-- t * k, k below 1 -/
def rRep0 (K : PySem.W.Frag) : R2 := fun x y H Q => ∃ l k xs, x = .ref l ∧ y = .int k ∧ SqT K H l xs ∧ xs ≠ [] ∧ -1000 ≤ k ∧ k ≤ 0 ∧ NewT H [] Q
theorem op_rep0 : OpR X (binaryOp .Mult) (rRep0 X.K) := by
  intro pins s σ H x y v u Q I
  intro rx ry h
  obtain ⟨l, k, xs, rfl, rfl, hT, hne, h1, h2, q⟩ := h
  cases rx
  obtain ⟨t, rfl⟩ := ry
  obtain ⟨us, r, ⟨⟨c0, d0, t0, s0⟩, ho, hc, n, hd⟩, hs⟩ := I.tuple hT
  simp only at hc hd
  subst hc hd
  have hl := r.length
  have em : us.toArray.isEmpty = false := by
    cases us with
    | nil => exact absurd (List.eq_nil_of_length_eq_zero hl) hne
    | cons a b => rfl
  refine wpAny_binaryOp_repeat_ref (T := "tuple") (U := "int") (by decide) ⟨_, ho, rfl⟩ (fun s' => typeIs_int s' k t) noFill_tuple_mul
    PySem.F.fills_int_mul PySem.F.slot_int_rmul repeat_tuple PySem.F.slot_int_index.lookup (call_meets PySem.F.slot_int_rmul (typeIs_int s k t) PySem.F.entry_int_rmul
      (PySem.F.args_int_rmul_2 _ _) (int_rmul_tuple k t l us.toArray n d0 s0) ⟨ho, rfl, ⟨_, ho, rfl⟩, ?_⟩)
  refine call_meets PySem.F.slot_tuple_mul ⟨_, ho, rfl⟩ PySem.F.entry_tuple_mul (PySem.F.args_tuple_mul_2 _ _)
    (tuple_mul0 l us.toArray n d0 s0 k t ?_ ?_ ?_) ⟨ho, ?_⟩
  · rw [decide_eq_false (by omega), decide_eq_false (by omega)]
    rfl
  · rw [em, Bool.false_or]
    apply beq_eq_false_iff_ne.mpr
    omega
  · rw [decide_eq_true h2]
    rfl
  · exact newT_end (its := []) I .nil (Nat.zero_le _) q
/-- t * 1 -/
def rRep1 (K : PySem.W.Frag) : R2 := fun x y H Q => ∃ l xs, x = .ref l ∧ y = .int 1 ∧ SqT K H l xs ∧ Q (.ref l) H
theorem op_rep1 : OpR X (binaryOp .Mult) (rRep1 X.K) := by
  intro pins s σ H x y v u Q I
  intro rx ry h
  obtain ⟨l, xs, rfl, rfl, hT, q⟩ := h
  cases rx
  obtain ⟨t, rfl⟩ := ry
  obtain ⟨us, r, ⟨⟨c0, d0, t0, s0⟩, ho, hc, n, hd⟩, hs⟩ := I.tuple hT
  simp only at hc hd
  subst hc hd
  refine wpAny_binaryOp_repeat_ref (T := "tuple") (U := "int") (by decide) ⟨_, ho, rfl⟩ (fun s' => typeIs_int s' 1 t) noFill_tuple_mul
    PySem.F.fills_int_mul PySem.F.slot_int_rmul repeat_tuple PySem.F.slot_int_index.lookup (call_meets PySem.F.slot_int_rmul (typeIs_int s 1 t) PySem.F.entry_int_rmul
      (PySem.F.args_int_rmul_2 _ _) (int_rmul_tuple 1 t l us.toArray n d0 s0) ⟨ho, rfl, ⟨_, ho, rfl⟩, ?_⟩)
  exact call_meets PySem.F.slot_tuple_mul ⟨_, ho, rfl⟩ PySem.F.entry_tuple_mul (PySem.F.args_tuple_mul_2 _ _)
    (tuple_mul1 l us.toArray n d0 s0 t) ⟨ho, ⟨.ref l, H, I, rfl, q⟩⟩
/-- t[lo:hi] -/
def rSlF (K : PySem.W.Frag) : V → Option Int → Option Int → Hp → VK → Prop := fun x lo hi H Q => ∃ a xs, x = .ref a ∧ SqT K H a xs ∧ (cutV xs lo hi = xs → Q (.ref a) H) ∧ NewT H (cutV xs lo hi) Q
theorem sl_tupF : SlR X (rSlF X.K) := by
  intro pins s σ H x v vl vu lo
  intro hi sl Q I rx hs pl pu h
  have zq27 := h
  obtain ⟨a, xs, rfl, hx, q1, q2⟩ := zq27
  cases rx
  obtain ⟨us, r, ht, hz⟩ := I.tuple hx
  have sz : us.toArray.size = xs.length := by rw [List.size_toArray]; exact r.length.symm
  refine ⟨"tuple", _, slot_tuple_getitem.lookup, ht.typeIs, ?_⟩
  by_cases hw : HT.sIx xs.length 0 lo = 0 ∧
        HT.sIx xs.length xs.length hi = xs.length
  · refine getItem_tuple_whole ht hs pl pu (by rw [sz]; exact hw) ⟨.ref a, H, I, rfl, q1 ?_⟩
    unfold cutV
    rw [hw.1, hw.2, List.drop_zero, Nat.sub_zero, List.take_length]
  · refine HT.getItem_tuple_cut ht hs pl pu (by rw [sz]; exact hw) ?_ (by rw [sz]; exact hz)
    rw [sz]
    exact newT_end I ((r.drop (HT.sIx xs.length 0 lo)).take _) (Nat.le_trans (cutV_length xs lo hi) hz) q2
/-- tuple(x) -/
theorem call_tupleF : CallR X (.type "tuple") (fun xs H Q => ∃ p ys, xs = [.ref p] ∧ ((SqL X.K H p ys ∧ NewT H ys Q) ∨ (SqT X.K H p ys ∧ Q (.ref p) H))) := by
  intro pins s σ H xs
  intro us Q I r h
  obtain ⟨p, ys, rfl, h⟩ := h
  have zq30 := vals1 r
  obtain ⟨u, rfl, rx⟩ := zq30
  cases rx
  have zq31 := h
  rcases zq31 with ⟨hq, q⟩ | ⟨hq, q⟩
  · obtain ⟨ws, r', pl, hz⟩ := I.list hq
    have hl := r'.length
    refine call_tuple_list pl.isList (fun h' kp => ?_) (by rw [List.size_toArray]; omega)
    exact newT_end (I.kept (t' := s.toks) kp) r' hz q
  · obtain ⟨ws, r', pl, hz⟩ := I.tuple hq
    refine call_tuple_same pl ⟨.ref p, H, I, rfl, q⟩

theorem rep_eq (l : List PV) : ∀ k, rep l k = (List.replicate k l).flatten
  | 0 => rfl
  | k + 1 => by
    unfold rep
    rw [rep_eq l k, List.replicate_succ, List.flatten_cons]
theorem RelPs.rep {l : List PV} {xs : List V} (r : RelPs Φ m H l xs) : ∀ k, RelPs Φ m H (Rn.rep l k) (List.replicate k xs).flatten
  | 0 => RelPs.nil
  | k + 1 => by
    unfold Rn.rep
    rw [List.replicate_succ]
    rw [List.flatten_cons]
    exact r.append (RelPs.rep r k)
theorem flat_len {α : Type} (l : List α) : ∀ k : Nat, ((List.replicate k l).flatten).length = k * l.length
  | 0 => by simp
  | k + 1 => by
    rw [List.replicate_succ, List.flatten_cons, List.length_append, flat_len l k, Nat.succ_mul]
    omega

/-- what an operator of the runner is -/
inductive BoOk : Bo → Operator → Prop
  | add : BoOk .add .Add
  | sub : BoOk .sub .Sub
  | mul : BoOk .mul .Mult
  | fdiv : BoOk .fdiv .FloorDiv
  | mod : BoOk .mod .Mod
  | pow : BoOk .pow .Pow

def AStr : R2 := fun x y H Q => ∃ i j : Str, x = .str i ∧ y = .str j ∧ i.length + j.length ≤ sizeLine ∧ Q (.str (i ++ j)) H
def AAdd (K : PySem.W.Frag) : R2 := fun x y H Q => rI0 (fun i j => .int (i + j)) x y H Q ∨ (AStr x y H Q ∨ (rCatF K x y H Q ∨ rCat x y H Q))
theorem op_addAll : OpR X (binaryOp .Add) (AAdd X.K) := op_add.or (OpR.or op_add_str (op_catF.or op_cat))
theorem add_ok {p q : PV} {x y : V} {bx : Bool} {Q : VK} (s : RelS Φ m S H) (rx : RelP Φ m H p x) (ry : RelP Φ m H q y) (h : PostE Φ W m H σ (addop bx p q S) Q) : AAdd Φ.K x y H Q := by
  have lists : ∀ {p : PV}, RelP Φ m H p x → PostE Φ W m H σ (withO (lstOf S p) fun x => withO (lstOf S q) fun y => mk bx (x ++ y) S) Q → AAdd Φ.K x y H Q := fun {p} rx h => by
    cases e1 : lstOf S p with
    | none =>
      rw [e1] at h
      exact False.elim h
    | some l1 =>
      rw [e1] at h
      have h : PostE Φ W m H σ (withO (lstOf S q) fun y => mk bx (l1 ++ y) S) Q := h
      cases e2 : lstOf S q with
      | none =>
        rw [e2] at h
        exact False.elim h
      | some l2 =>
        rw [e2] at h
        have h : PostE Φ W m H σ (mk bx (l1 ++ l2) S) Q := h
        obtain ⟨a, xs, ex, h1, r1⟩ := lst_ok s rx e1
        obtain ⟨b, ys, ey, h2, r2⟩ := lst_ok s ry e2
        refine .inr (.inr (.inr ⟨a, b, xs, ys, ex, ey, h1, h2, ?_, fun p hp => (mk_ok s (r1.append r2) h hp).2⟩))
        have := mk_len h
        rw [List.length_append, r1.length, r2.length] at this
        exact size_lim this
  cases p with
  | int i =>
    cases q with
    | int j =>
      simp only [RelP] at rx ry
      exact .inl ⟨i, j, rx, ry, fin h s (by simp only [RelP])⟩
    | _ => exact False.elim h
  | str a =>
    cases q with
    | str b =>
      simp only [RelP] at rx ry
      have h : PostE Φ W m H σ (if Nat.ble (a.cps.size + b.cps.size) lim then .ok (.str (a ++ b)) S else .no) Q := h
      split at h
      · rename_i hz
        have hz' := Nat.le_of_ble_eq_true hz
        refine .inr (.inl ⟨a, b, rx.1, ry.1, size_lim hz', fin h s ?_⟩)
        simp only [RelP]
        refine ⟨trivial, ?_⟩
        show (a.cps ++ b.cps).size ≤ lim
        rw [Array.size_append]
        exact hz'
      · exact False.elim h
    | _ => exact False.elim h
  | tup l1 =>
    cases q with
    | tup l2 =>
      have h : PostE Φ W m H σ (mkT (l1 ++ l2) S) Q := h
      have hz := mkT_len h
      simp only [RelP] at rx ry
      obtain ⟨a, xs, ex, h1, r1⟩ := rx
      obtain ⟨b, ys, ey, h2, r2⟩ := ry
      have e1 := r1.length
      have e2 := r2.length
      rw [List.length_append, e1, e2] at hz
      refine .inr (.inr (.inl ⟨a, b, xs, ys, ex, ey, h1.sq, h2.sq, size_lim hz, fun e => ?_, fun e => ?_, mkT_ok s (r1.append r2) h⟩))
      · subst e
        have : l1 = [] := by cases l1; rfl; simp at e1
        subst this
        exact mkT_old s h2 r2 h
      · subst e
        have : l2 = [] := by cases l2; rfl; simp at e2
        subst this
        rw [List.append_nil] at h
        exact mkT_old s h1 r1 h
    | _ => exact False.elim h
  | lst l => exact lists rx h
  | box n => exact lists rx h
  | non => exact lists rx h
  | bl b => exact lists rx h
  | klst l => exact lists rx h
  | fn f => exact lists rx h
  | ty t => exact lists rx h
  | xc c l => exact lists rx h

theorem small_ok {i : Int} (h : small64 i = true) : -(2 ^ 64) < i ∧ i < 2 ^ 64 := by
  obtain ⟨h1, h2⟩ := and2 h
  have a := ilt_true h1
  have b := ilt_true h2
  constructor
  · show -(18446744073709551616 : Int) < i
    omega
  · show i < (18446744073709551616 : Int)
    omega
def AMul (K : PySem.W.Frag) : R2 := fun x y H Q => rI CMul (fun i j => .int (i * j)) x y H Q ∨ (rRepF K x y H Q ∨ (rRep x y H Q ∨ (rRep0 K x y H Q ∨ rRep1 K x y H Q)))
theorem op_mulAll : OpR X (binaryOp .Mult) (AMul X.K) := op_mul.or (op_repF.or (op_rep.or (op_rep0.or op_rep1)))
theorem mul_ok {p q : PV} {x y : V} {bx : Bool} {Q : VK} (s : RelS Φ m S H) (rx : RelP Φ m H p x) (ry : RelP Φ m H q y) (h : PostE Φ W m H σ (mulop bx p q S) Q) : AMul Φ.K x y H Q := by
  cases q with
  | int j =>
    simp only [RelP] at ry
    have lists : ∀ {p : PV}, RelP Φ m H p x → PostE Φ W m H σ (withO (lstOf S p) fun x => if ilt 0 j && ile j 4000 && Nat.ble x.length 250 then mk bx (rep x j.toNat) S else .no) Q → AMul Φ.K x y H Q := fun {p} rx h => by
      cases e1 : lstOf S p with
      | none =>
        rw [e1] at h
        exact False.elim h
      | some l1 =>
        rw [e1] at h
        have h : PostE Φ W m H σ (if ilt 0 j && ile j 4000 && Nat.ble l1.length 250 then mk bx (rep l1 j.toNat) S else .no) Q := h
        split at h
        · rename_i hc
          obtain ⟨hc, h3⟩ := and2 hc
          obtain ⟨h1, h2⟩ := and2 hc
          have h1 := ilt_true h1
          have h2 := ile_true h2
          have h3 := Nat.le_of_ble_eq_true h3
          obtain ⟨a, xs, ex, q1, r1⟩ := lst_ok s rx e1
          rw [r1.length] at h3
          refine .inr (.inr (.inl ⟨a, j, xs, ex, ry, q1, by omega, by omega, ?_, fun p hp => (mk_ok s (RelPs.rep r1 _) h hp).2⟩))
          rw [sizeLine_eq]
          have : xs.length * j.toNat ≤ 250 * 4000 := Nat.mul_le_mul h3 (by omega)
          omega
        · exact False.elim h
    cases p with
    | int i =>
      simp only [RelP] at rx
      have h : PostE Φ W m H σ (if small64 i || small64 j then .ok (.int (i * j)) S else .no) Q := h
      split at h
      · rename_i hc
        refine .inl ⟨i, j, rx, ry, ?_, fin h s (by simp only [RelP])⟩
        rcases Bool.or_eq_true_iff.mp hc with hc | hc
        · exact .inl (small_ok hc)
        · exact .inr (small_ok hc)
      · exact False.elim h
    | tup l1 =>
      have h : PostE Φ W m H σ (if Nat.blt 0 l1.length && Nat.ble l1.length 250 then if ilt 1 j then if ile j 4000 then mkT (rep l1 j.toNat) S else .no else if ilt j 1 then if ile (-1000) j then mkT [] S else .no else .ok (.tup l1) S else .no) Q := h
      split at h
      · rename_i hc
        obtain ⟨h3, h4⟩ := and2 hc
        have h3 : 0 < l1.length := Nat.le_of_ble_eq_true h3
        have h4 := Nat.le_of_ble_eq_true h4
        simp only [RelP] at rx
        obtain ⟨a, xs, ex, q1, r1⟩ := rx
        rw [r1.length] at h3 h4
        have ne : xs ≠ [] := fun e => by
          subst e
          exact absurd h3 (Nat.lt_irrefl 0)
        split at h
        · rename_i h1
          have h1 := ilt_true h1
          split at h
          · rename_i h2
            have h2 := ile_true h2
            exact .inr (.inl ⟨a, j, xs, ex, ry, q1.sq, ne, by omega, by omega, h4, mkT_ok s (RelPs.rep r1 _) h⟩)
          · exact False.elim h
        · rename_i h1
          have h1 : ¬ 1 < j := fun z => h1 (by rw [ilt_eq]; exact decide_eq_true z)
          split at h
          · rename_i h2
            have h2 := ilt_true h2
            split at h
            · rename_i h5
              have h5 := ile_true h5
              exact .inr (.inr (.inr (.inl ⟨a, j, xs, ex, ry, q1.sq, ne, h5, by omega, mkT_ok s RelPs.nil h⟩)))
            · exact False.elim h
          · rename_i h2
            have h2 : ¬ j < 1 := fun z => h2 (by rw [ilt_eq]; exact decide_eq_true z)
            have one : j = 1 := by omega
            rw [one] at ry
            exact .inr (.inr (.inr (.inr ⟨a, xs, ex, ry, q1.sq, fin h s (by simp only [RelP]; exact ⟨a, xs, rfl, q1, r1⟩)⟩)))
      · exact False.elim h
    | lst l => exact lists rx h
    | box n => exact lists rx h
    | non => exact lists rx h
    | bl b => exact lists rx h
    | str a => exact lists rx h
    | klst l => exact lists rx h
    | fn f => exact lists rx h
    | ty t => exact lists rx h
    | xc c l => exact lists rx h
  | _ => exact False.elim h

/-- division by what is below 2^64 -/
theorem op_fdiv64 : OpR X (binaryOp .FloorDiv) (rI (fun _ j => 0 < j ∧ j < 18446744073709551616) fun i j => .int (i / j)) := opI fun i j _ _ _ _ _ hc q => by
  have lo : 0 < j := hc.1
  have hi : j < 18446744073709551616 := hc.2
  have lg : j.natAbs.log2 < 64 := (Nat.log2_lt (by omega)).mpr (by
    have pw64 : (2 : Nat) ^ 64 = 18446744073709551616 := by decide
    omega)
  refine floordiv_int (by omega) ?_ (.inl (PyProof.noPylong_of_log2 (by omega)))
  rw [Int.fdiv_eq_ediv_of_nonneg i (by omega)]
  exact q
/-- a op b -/
theorem pe_bin {o : Bo} {op : Operator} {bx : Bool} {a b : Expr} {f g : Run} (ho : BoOk o op) (hK : X.K = Φ.K) (ha : PE X a (tR Φ W f)) (hb : PE X b (tR Φ W g)) :
    PE X (.BinOp a op b pos) (tR Φ W fun ρ S => (f ρ S).bind fun v S1 => (g ρ S1).bind fun w S2 => binop o bx v w S2) := by
  have main : ∀ {r : R2}, OpR X (binaryOp op) r → (∀ {m H σ S p q x y Q}, RelS Φ m S H → RelP Φ m H p x → RelP Φ m H q y → PostE Φ W m H σ (binop o bx p q S) Q → r x y H Q) →
      PE X (.BinOp a op b pos) (tR Φ W fun ρ S => (f ρ S).bind fun v S1 => (g ρ S1).bind fun w S2 => binop o bx v w S2) := fun {r} hr k => by
    refine PE.of (pe_op hr ha hb) fun σ H Q h => ?_
    obtain ⟨m, ρ, S, s, e, h⟩ := h
    exact chain s e h fun p S1 m1 H1 x e1 s1 E1 r1 h1 => chain s1 E1 h1 fun q S2 m2 H2 y e2 s2 E2 r2 h2 => k s2 (r1.ext e2) r2 h2
  have intsL : ∀ {C : Int → Int → Prop} {G : Int → Int → Int}, OpR X (binaryOp op) (rI C fun i j => .int (G i j)) → (∀ {m : Mp} {H : Hp} {σ : L2.St} {S : Sto} {p q : PV} {Q : VK}, PostE Φ W m H σ (binop o bx p q S) Q → ∃ i j, p = .int i ∧ q = .int j ∧ C i j ∧ PostE Φ W m H σ (.ok (.int (G i j)) S) Q) →
      PE X (.BinOp a op b pos) (tR Φ W fun ρ S => (f ρ S).bind fun v S1 => (g ρ S1).bind fun w S2 => binop o bx v w S2) := fun {C G} hr k => main hr fun {m H σ S p q x y Q} s rx ry h => by
    obtain ⟨i, j, rfl, rfl, hc, h⟩ := k h
    simp only [RelP] at rx ry
    exact ⟨i, j, rx, ry, hc, fin h s (by simp only [RelP])⟩
  have two : ∀ {G : Int → Int → R PV} {m : Mp} {H : Hp} {σ : L2.St} {p q : PV} {Q : VK}, PostE Φ W m H σ (match p with
      | .int i => match q with
        | .int j => G i j
        | _ => .no
      | _ => .no) Q → ∃ i j, p = .int i ∧ q = .int j ∧ PostE Φ W m H σ (G i j) Q := fun {G m H σ p q Q} h => by
    cases p with
    | int i =>
      cases q with
      | int j => exact ⟨i, j, rfl, rfl, h⟩
      | _ => exact False.elim h
    | _ => exact False.elim h
  cases ho with
  | add => exact main op_addAll fun s rx ry h => by rw [hK]; exact add_ok s rx ry h
  | mul => exact main op_mulAll fun s rx ry h => by rw [hK]; exact mul_ok s rx ry h
  | sub =>
    refine main op_sub fun {m H σ S p q x y Q} s rx ry h => ?_
    obtain ⟨i, j, rfl, rfl, h⟩ := two (G := fun i j => .ok (.int (i - j)) S) h
    simp only [RelP] at rx ry
    exact ⟨i, j, rx, ry, fin h s (by simp only [RelP])⟩
  | fdiv =>
    refine intsL op_fdiv64 fun {m H σ S p q Q} h => ?_
    obtain ⟨i, j, e1, e2, h⟩ := two (G := fun i j => if ilt 0 j && ilt j 18446744073709551616 then .ok (.int (i / j)) S else .no) h
    split at h
    · rename_i hc
      obtain ⟨h1, h2⟩ := and2 hc
      exact ⟨i, j, e1, e2, ⟨ilt_true h1, ilt_true h2⟩, h⟩
    · exact False.elim h
  | mod =>
    refine intsL op_mod fun {m H σ S p q Q} h => ?_
    obtain ⟨i, j, e1, e2, h⟩ := two (G := fun i j => if ilt 0 j then .ok (.int (i % j)) S else .no) h
    split at h
    · rename_i hc
      exact ⟨i, j, e1, e2, ilt_true hc, h⟩
    · exact False.elim h
  | pow =>
    refine intsL op_pow fun {m H σ S p q Q} h => ?_
    obtain ⟨i, j, e1, e2, h⟩ := two (G := fun i j => if ile 0 j && ile j 1000 && small64 i then .ok (.int (i ^ j.toNat)) S else .no) h
    split at h
    · rename_i hc
      obtain ⟨hc, h3⟩ := and2 hc
      obtain ⟨h1, h2⟩ := and2 hc
      have h1 := ile_true h1
      have h2 := ile_true h2
      obtain ⟨h3, h4⟩ := small_ok h3
      exact ⟨i, j, e1, e2, ⟨h1, by omega, by omega⟩, h⟩
    · exact False.elim h
end
end Rn
set_option maxHeartbeats 1000007
/-! The runner is right: comparisons, kinds, places. -/
namespace Rn
open L2 PySem PyProof.Rows PySem.Spec

/-! ### data as a whole -/
mutual
def toD : PV → PyData
  | .non => .none
  | .bl b => .bool b
  | .int i => .int i
  | .str x => .str x
  | .tup l => .tuple (toDs l)
  | .lst l => .list (toDs l)
  | _ => .none
def toDs : List PV → List PyData
  | [] => []
  | p :: ps => toD p :: toDs ps
end
mutual
theorem toD_plain : ∀ (p : PV), (toD p).plain = true
  | .non => by simp only [toD, PyData.plain]
  | .bl _ => by simp only [toD, PyData.plain]
  | .int _ => by simp only [toD, PyData.plain]
  | .str _ => by simp only [toD, PyData.plain]
  | .tup l => by
    simp only [toD, PyData.plain]
    exact toDs_plain l
  | .lst l => by
    simp only [toD, PyData.plain]
    exact toDs_plain l
  | .klst _ => by simp only [toD, PyData.plain]
  | .box _ => by simp only [toD, PyData.plain]
  | .fn _ => by simp only [toD, PyData.plain]
  | .ty _ => by simp only [toD, PyData.plain]
  | .xc _ _ => by simp only [toD, PyData.plain]
theorem toDs_plain : ∀ (l : List PV), PyData.plainAll (toDs l) = true
  | [] => by simp only [toDs, PyData.plainAll]
  | p :: ps => by simp only [toDs, PyData.plainAll, toD_plain p, toDs_plain ps, Bool.and_self]
end
theorem toDs_len : ∀ l : List PV, (toDs l).length = l.length
  | [] => by simp only [toDs, List.length_nil]
  | p :: ps => by simp only [toDs, List.length_cons, toDs_len ps]
theorem toDs_get : ∀ (l : List PV) (i : Nat), (toDs l)[i]? = l[i]?.map toD
  | [], i => by simp only [toDs]; rfl
  | p :: ps, 0 => by simp only [toDs]; rfl
  | p :: ps, i + 1 => by
    simp only [toDs, List.getElem?_cons_succ]
    exact toDs_get ps i
mutual
theorem toD_depth : ∀ (n : Nat) (p : PV), p.shp n = true → (toD p).depth ≤ n
  | _, .non, _ => by simp only [toD, PyData.depth]; exact Nat.zero_le _
  | _, .bl _, _ => by simp only [toD, PyData.depth]; exact Nat.zero_le _
  | _, .int _, _ => by simp only [toD, PyData.depth]; exact Nat.zero_le _
  | _, .str _, _ => by simp only [toD, PyData.depth]; exact Nat.zero_le _
  | 0, .tup l, h => by simp only [PV.shp] at h; cases h
  | 0, .lst l, h => by simp only [PV.shp] at h; cases h
  | n + 1, .tup l, h => by
    simp only [PV.shp] at h
    simp only [toD, PyData.depth]
    exact Nat.succ_le_succ (toDs_depth n l h)
  | n + 1, .lst l, h => by
    simp only [PV.shp] at h
    simp only [toD, PyData.depth]
    exact Nat.succ_le_succ (toDs_depth n l h)
  | _, .klst _, _ => by simp only [toD, PyData.depth]; exact Nat.zero_le _
  | _, .box _, _ => by simp only [toD, PyData.depth]; exact Nat.zero_le _
  | _, .fn _, _ => by simp only [toD, PyData.depth]; exact Nat.zero_le _
  | _, .ty _, _ => by simp only [toD, PyData.depth]; exact Nat.zero_le _
  | _, .xc _ _, _ => by simp only [toD, PyData.depth]; exact Nat.zero_le _
theorem toDs_depth : ∀ (n : Nat) (l : List PV), PV.shps n l = true → PyData.depthAll (toDs l) ≤ n
  | _, [], _ => by simp only [toDs, PyData.depthAll]; exact Nat.zero_le _
  | n, p :: ps, h => by
    simp only [PV.shps] at h
    obtain ⟨h1, h2⟩ := and2 h
    simp only [toDs, PyData.depthAll]
    exact Nat.max_le.mpr ⟨toD_depth n p h1, toDs_depth n ps h2⟩
end
theorem no_klst {k : Nat} {l : List PV} (h : PV.shp k (.klst l) = true) : False := by cases k <;> simp [PV.shp] at h
theorem no_box {k n : Nat} (h : PV.shp k (.box n) = true) : False := by cases k <;> simp [PV.shp] at h
theorem no_fn {k n : Nat} (h : PV.shp k (.fn n) = true) : False := by cases k <;> simp [PV.shp] at h
theorem no_ty {k : Nat} {t : String} (h : PV.shp k (.ty t) = true) : False := by cases k <;> simp [PV.shp] at h
theorem no_xc {k c : Nat} {l : List PV} (h : PV.shp k (.xc c l) = true) : False := by cases k <;> simp [PV.shp] at h
section
variable {X : Cx} {Φ : Fm} {W : WX} {m m1 : Mp} {H H1 : Hp} {S : Sto} {ρ : Env} {σ : L2.St} {pos : Pos}
mutual
theorem toD_rel : ∀ (n : Nat) (p : PV) (v : V), p.shp n = true → RelP Φ m H p v → Dp Φ.K H v (toD p)
  | _, .non, v, _, r => by
    simp only [RelP] at r
    subst r
    simp only [toD]
    exact .non
  | _, .bl b, v, _, r => by
    simp only [RelP] at r
    subst r
    simp only [toD]
    exact .bl b
  | _, .int i, v, _, r => by
    simp only [RelP] at r
    subst r
    simp only [toD]
    exact .int i
  | _, .str x, v, _, r => by
    simp only [RelP] at r
    obtain ⟨r, _⟩ := r
    subst r
    simp only [toD]
    exact .str x
  | 0, .tup l, _, h, _ => by simp only [PV.shp] at h; cases h
  | 0, .lst l, _, h, _ => by simp only [PV.shp] at h; cases h
  | n + 1, .tup l, v, h, r => by
    simp only [PV.shp] at h
    simp only [RelP] at r
    obtain ⟨a, xs, e, h1, h2⟩ := r
    subst e
    simp only [toD]
    exact .tup h1.sq (toDs_rel n l xs h h2)
  | n + 1, .lst l, v, h, r => by
    simp only [PV.shp] at h
    simp only [RelP] at r
    obtain ⟨a, xs, e, h1, h2⟩ := r
    subst e
    simp only [toD]
    exact .lst h1.sq (toDs_rel n l xs h h2)
  | n, .klst _, _, h, _ => by cases n <;> simp [PV.shp] at h
  | n, .box _, _, h, _ => by cases n <;> simp [PV.shp] at h
  | n, .fn _, _, h, _ => by cases n <;> simp [PV.shp] at h
  | n, .ty _, _, h, _ => by cases n <;> simp [PV.shp] at h
  | n, .xc _ _, _, h, _ => by cases n <;> simp [PV.shp] at h
theorem toDs_rel : ∀ (n : Nat) (l : List PV) (vs : List V), PV.shps n l = true → RelPs Φ m H l vs → DpAll Φ.K H vs (toDs l)
  | _, [], vs, _, r => by
    simp only [RelPs] at r
    subst r
    simp only [toDs]
    exact .nil
  | n, p :: ps, vs, h, r => by
    simp only [PV.shps] at h
    obtain ⟨h1, h2⟩ := and2 h
    simp only [RelPs] at r
    obtain ⟨v, vr, e, r1, r2⟩ := r
    subst e
    simp only [toDs]
    exact .cons (toD_rel n p v h1 r1) (toDs_rel n ps vr h2 r2)
end
mutual
theorem toD_eqv : ∀ (n k : Nat) (p q : PV), p.shp n = true → q.shp k = true → PyData.eqv (toD p) (toD q) = p.beq q := fun n k p q h1 h2 => by
  cases p with
  | non =>
    cases q with
    | klst l => exact (no_klst h2).elim
    | box n => exact (no_box h2).elim
    | fn f => exact (no_fn h2).elim
    | ty t => exact (no_ty h2).elim
    | xc c l => exact (no_xc h2).elim
    | _ => simp only [toD, PyData.eqv, PV.beq]
  | bl a =>
    cases q with
    | klst l => exact (no_klst h2).elim
    | box n => exact (no_box h2).elim
    | fn f => exact (no_fn h2).elim
    | ty t => exact (no_ty h2).elim
    | xc c l => exact (no_xc h2).elim
    | _ => simp only [toD, PyData.eqv, PV.beq]
  | int a =>
    cases q with
    | klst l => exact (no_klst h2).elim
    | box n => exact (no_box h2).elim
    | fn f => exact (no_fn h2).elim
    | ty t => exact (no_ty h2).elim
    | xc c l => exact (no_xc h2).elim
    | _ => simp only [toD, PyData.eqv, PV.beq]
  | str a =>
    cases q with
    | klst l => exact (no_klst h2).elim
    | box n => exact (no_box h2).elim
    | fn f => exact (no_fn h2).elim
    | ty t => exact (no_ty h2).elim
    | xc c l => exact (no_xc h2).elim
    | _ => simp only [toD, PyData.eqv, PV.beq]
  | tup a =>
    cases n with
    | zero => simp [PV.shp] at h1
    | succ n =>
      cases q with
      | tup b =>
        cases k with
        | zero => simp [PV.shp] at h2
        | succ k =>
          simp only [PV.shp] at h1 h2
          simp only [toD, PyData.eqv, PV.beq]
          exact toDs_eqv n k a b h1 h2
      | klst l => exact (no_klst h2).elim
      | box n => exact (no_box h2).elim
      | fn f => exact (no_fn h2).elim
      | ty t => exact (no_ty h2).elim
      | xc c l => exact (no_xc h2).elim
      | _ => simp only [toD, PyData.eqv, PV.beq]
  | lst a =>
    cases n with
    | zero => simp [PV.shp] at h1
    | succ n =>
      cases q with
      | lst b =>
        cases k with
        | zero => simp [PV.shp] at h2
        | succ k =>
          simp only [PV.shp] at h1 h2
          simp only [toD, PyData.eqv, PV.beq]
          exact toDs_eqv n k a b h1 h2
      | klst l => exact (no_klst h2).elim
      | box n => exact (no_box h2).elim
      | fn f => exact (no_fn h2).elim
      | ty t => exact (no_ty h2).elim
      | xc c l => exact (no_xc h2).elim
      | _ => simp only [toD, PyData.eqv, PV.beq]
  | klst l => exact (no_klst h1).elim
  | box n => exact (no_box h1).elim
  | fn f => exact (no_fn h1).elim
  | ty t => exact (no_ty h1).elim
  | xc c l => exact (no_xc h1).elim
theorem toDs_eqv : ∀ (n k : Nat) (a b : List PV), PV.shps n a = true → PV.shps k b = true → PyData.eqvAll (toDs a) (toDs b) = PV.beqs a b
  | _, _, [], [], _, _ => by simp only [toDs, PyData.eqvAll, PV.beqs]
  | _, _, [], _ :: _, _, _ => by simp only [toDs, PyData.eqvAll, PV.beqs]
  | _, _, _ :: _, [], _, _ => by simp only [toDs, PyData.eqvAll, PV.beqs]
  | n, k, p :: ps, q :: qs, h1, h2 => by
    simp only [PV.shps] at h1 h2
    obtain ⟨a1, a2⟩ := and2 h1
    obtain ⟨b1, b2⟩ := and2 h2
    simp only [toDs, PyData.eqvAll, PV.beqs]
    rw [toD_eqv n k p q a1 b1, toDs_eqv n k ps qs a2 b2]
end

/-! ### == of data, in -/
def RUnits (X : Cx) : Prop := X.A.units + 200 < cLine
theorem der_rel (s : RelS Φ m S H) {n : Nat} {p : PV} {v : V} (h : (der S p).shp n = true) (r : RelP Φ m H p v) : Dp Φ.K H v (toD (der S p)) := by
  cases p with
  | box k =>
    unfold der at h ⊢
    simp only at h ⊢
    cases e : getB S k with
    | none =>
      rw [e] at h
      simp only at h
      cases n <;> simp [PV.shp] at h
    | some l =>
      rw [e] at h
      simp only at h ⊢
      obtain ⟨a, xs, h1, h2, h3⟩ := lst_ok s r (l := l) e
      subst h1
      cases n with
      | zero => simp [PV.shp] at h
      | succ n =>
        simp only [PV.shp] at h
        simp only [toD]
        exact .lst (SqL.of h2) (toDs_rel n l xs h h3)
  | klst l =>
    unfold der at h ⊢
    simp only at h ⊢
    simp only [RelP] at r
    obtain ⟨a, xs, h1, h2, h3⟩ := r
    subst h1
    cases n with
    | zero => simp [PV.shp] at h
    | succ n =>
      simp only [PV.shp] at h
      simp only [toD]
      exact .lst h2.sq (toDs_rel n l xs h h3)
  | _ => exact toD_rel n _ v h r

def rEqP (K : PySem.W.Frag) (neg : Bool) : R2 := fun x y H Q => ∃ d e, Dp K H x d ∧ Dp K H y e ∧ d.plain = true ∧ e.plain = true ∧ d.depth ≤ 100 ∧ Q (.bl (if neg then !PyData.eqv d e else PyData.eqv d e)) H
theorem op_eqP (hu : RUnits X) : OpR X (compareOp .Eq) (rEqP X.K false) := by
  intro pins s σ H x y
  intro v u Q I rx ry h
  obtain ⟨d, e, hd, he, pd, pe, hz, q⟩ := h
  have zq37 := Dp.reads I d x v hd rx
  obtain ⟨as, r1⟩ := zq37
  have zq38 := Dp.reads I e y u he ry
  obtain ⟨bs, r2⟩ := zq38
  have : min d.depth e.depth ≤ d.depth := Nat.min_le_left _ _
  exact SeqAt.eq_plain r1 r2 pd pe (by unfold RUnits at hu; omega) ⟨.bl _, H, I, rfl, q⟩
theorem op_neP (hu : RUnits X) : OpR X (compareOp .NotEq) (rEqP X.K true) := by
  intro pins s σ H x y
  intro v u Q I rx ry h
  obtain ⟨d, e, hd, he, pd, pe, hz, q⟩ := h
  have zq40 := Dp.reads I d x v hd rx
  obtain ⟨as, r1⟩ := zq40
  have zq41 := Dp.reads I e y u he ry
  obtain ⟨bs, r2⟩ := zq41
  have : min d.depth e.depth ≤ d.depth := Nat.min_le_left _ _
  exact SeqAt.ne_plain r1 r2 pd pe (by unfold RUnits at hu; omega) ⟨.bl _, H, I, rfl, q⟩
def rInP (K : PySem.W.Frag) (neg : Bool) : R2 := fun x y H Q => ∃ a xs d ds, y = .ref a ∧ (SqL K H a xs ∨ SqT K H a xs) ∧ DpAll K H xs ds ∧ Dp K H x d ∧ PyData.plainAll ds = true ∧ d.plain = true ∧ d.depth ≤ 100 ∧
  Q (.bl (if neg then !(ds.any fun z => PyData.eqv z d) else ds.any fun z => PyData.eqv z d)) H
theorem op_inP (hu : RUnits X) : OpR X (compareOp .In) (rInP X.K false) := by
  intro pins s σ H x y
  intro v u Q I rx ry h
  obtain ⟨a, xs, d, ds, rfl, hs, ha, hd, ps, pd, hz, q⟩ := h
  have zq43 := Dp.reads I d x v hd rx
  obtain ⟨as, r1⟩ := zq43
  have hm : min (PyData.depthAll ds) d.depth ≤ d.depth := Nat.min_le_right _ _
  have room : X.A.units + 1 + min (PyData.depthAll ds) d.depth < cLine := by unfold RUnits at hu; omega
  rcases hs with hs | hs
  · obtain ⟨bs, r2⟩ := Dp.reads I (.list ds) (.ref a) u (.lst hs ha) ry
    exact SeqAt.in_list_data r2 r1 ps pd room ⟨.bl _, H, I, rfl, q⟩
  · obtain ⟨bs, r2⟩ := Dp.reads I (.tuple ds) (.ref a) u (.tup hs ha) ry
    exact SeqAt.in_tuple_data r2 r1 ps pd room ⟨.bl _, H, I, rfl, q⟩
theorem op_ninP (hu : RUnits X) : OpR X (compareOp .NotIn) (rInP X.K true) := by
  intro pins s σ H x y
  intro v u Q I rx ry h
  obtain ⟨a, xs, d, ds, rfl, hs, ha, hd, ps, pd, hz, q⟩ := h
  have zq45 := Dp.reads I d x v hd rx
  obtain ⟨as, r1⟩ := zq45
  have hm : min (PyData.depthAll ds) d.depth ≤ d.depth := Nat.min_le_right _ _
  have room : X.A.units + 1 + min (PyData.depthAll ds) d.depth < cLine := by unfold RUnits at hu; omega
  rcases hs with hs | hs
  · obtain ⟨bs, r2⟩ := Dp.reads I (.list ds) (.ref a) u (.lst hs ha) ry
    exact SeqAt.notIn_list_data r2 r1 ps pd room ⟨.bl _, H, I, rfl, q⟩
  · obtain ⟨bs, r2⟩ := Dp.reads I (.tuple ds) (.ref a) u (.tup hs ha) ry
    exact SeqAt.notIn_tuple_data r2 r1 ps pd room ⟨.bl _, H, I, rfl, q⟩

theorem any_toDs (n k : Nat) (q : PV) (hq : q.shp k = true) : ∀ l : List PV, PV.shps n l = true → ((toDs l).any fun z => PyData.eqv z (toD q)) = l.any fun z => z.beq q
  | [], _ => by simp only [toDs]; rfl
  | p :: ps, h => by
    simp only [PV.shps] at h
    obtain ⟨h1, h2⟩ := and2 h
    simp only [toDs, List.any_cons]
    rw [any_toDs n k q hq ps h2, toD_eqv n k p q h1 hq]

/-- the comparisons of the runner -/
inductive CoOk : Co → CmpOp → Prop
  | eq : CoOk .eq .Eq
  | ne : CoOk .ne .NotEq
  | lt : CoOk .lt .Lt
  | le : CoOk .le .LtE
  | gt : CoOk .gt .Gt
  | ge : CoOk .ge .GtE
  | is : CoOk .is .Is
  | isn : CoOk .isn .IsNot
  | inn : CoOk .inn .In
  | nin : CoOk .nin .NotIn

/-- what the runner says of a comparison is so -/
def CmpR (Φ : Fm) (o : Co) : R2 := fun x y H Q => ∃ m S p q b, RelS Φ m S H ∧ RelP Φ m H p x ∧ RelP Φ m H q y ∧ cmpop o p q S = some b ∧ Q (.bl b) H
theorem eqD_some {p q : PV} {b : Bool} (h : eqD p q = some b) : p.shp deep = true ∧ q.shp deep = true ∧ p.beq q = b := by
  unfold eqD at h
  split at h
  · rename_i hc
    obtain ⟨h1, h2⟩ := and2 hc
    cases h
    exact ⟨h1, h2, rfl⟩
  · cases h
theorem oneg_some {o : Option Bool} {b : Bool} (h : oneg o = some b) : o = some (!b) := by
  cases o with
  | none => cases h
  | some c =>
    have h : some (!c) = some b := h
    cases h
    rw [Bool.not_not]
theorem cmpI_some {p q : PV} {f : Int → Int → Bool} {b : Bool} (h : cmpI p q f = some b) : ∃ i j, p = .int i ∧ q = .int j ∧ f i j = b := by
  unfold cmpI at h
  split at h
  · split at h
    · cases h
      exact ⟨_, _, rfl, rfl, rfl⟩
    · cases h
  · cases h
theorem isIn_some {p q : PV} {b : Bool} (h : isIn S p q = some b) : ∃ l, seqOf S q = some l ∧ (der S p).shp deep = true ∧ PV.shps deep l = true ∧ (l.any fun z => z.beq (der S p)) = b := by
  unfold isIn at h
  split at h
  · rename_i l e
    split at h
    · rename_i hc
      obtain ⟨h1, h2⟩ := and2 hc
      cases h
      exact ⟨l, e, h1, h2, rfl⟩
    · cases h
  · cases h
theorem isNone_some {p : PV} {v : V} {b : Bool} (r : RelP Φ m H p v) (h : isNone p = some b) : decide (v = V.non) = b := by
  cases p with
  | non =>
    simp only [RelP] at r
    subst r
    cases h
    rfl
  | bl a =>
    simp only [RelP] at r
    subst r
    cases h
    rfl
  | int a =>
    simp only [RelP] at r
    subst r
    cases h
    rfl
  | str a =>
    simp only [RelP] at r
    obtain ⟨r, _⟩ := r
    subst r
    cases h
    rfl
  | tup l =>
    simp only [RelP] at r
    obtain ⟨a, xs, e, _⟩ := r
    subst e
    cases h
    rfl
  | lst l =>
    simp only [RelP] at r
    obtain ⟨a, xs, e, _⟩ := r
    subst e
    cases h
    rfl
  | klst l =>
    simp only [RelP] at r
    obtain ⟨a, xs, e, _⟩ := r
    subst e
    cases h
    rfl
  | fn f =>
    simp only [RelP] at r
    subst r
    cases h
    rfl
  | box n => cases h
  | ty t => cases h
  | xc c l => cases h

theorem op_cmp {o : Co} {op : CmpOp} (ho : CoOk o op) (hK : X.K = Φ.K) (hu : RUnits X) : OpR X (compareOp op) (CmpR Φ o) := by
  intro pins s σ H x y
  intro v u Q I rx ry h
  obtain ⟨m, S, p, q, b, hS, rp, rq, hc, hq⟩ := h
  have num : ∀ {f : Int → Int → Bool} {g : Int → Int → Bool}, OpR X (compareOp op) (rI0 fun i j => .bl (g i j)) → (∀ i j, f i j = g i j) → cmpI p q f = some b → wpAny (model X.prog X.w) X.A (compareOp op v u) (EP X pins σ Q) X.xe s := fun {f g} hr hfg hb => by
    obtain ⟨i, j, rfl, rfl, e⟩ := cmpI_some hb
    simp only [RelP] at rp rq
    refine hr pins s σ H x y v u Q I rx ry ⟨i, j, rp, rq, ?_⟩
    show Q (.bl (g i j)) H
    rw [← hfg, e]
    exact hq
  cases ho with
  | eq =>
    obtain ⟨h1, h2, h3⟩ := eqD_some (show eqD (der S p) (der S q) = some b from hc)
    refine op_eqP hu pins s σ H x y v u Q I rx ry ⟨toD (der S p), toD (der S q), by rw [hK]; exact der_rel hS h1 rp, by rw [hK]; exact der_rel hS h2 rq, toD_plain _, toD_plain _, Nat.le_trans (toD_depth _ _ h1) (by decide), ?_⟩
    show Q (.bl (PyData.eqv (toD (der S p)) (toD (der S q)))) H
    rw [toD_eqv _ _ _ _ h1 h2, h3]
    exact hq
  | ne =>
    obtain ⟨h1, h2, h3⟩ := eqD_some (oneg_some (show oneg (eqD (der S p) (der S q)) = some b from hc))
    refine op_neP hu pins s σ H x y v u Q I rx ry ⟨toD (der S p), toD (der S q), by rw [hK]; exact der_rel hS h1 rp, by rw [hK]; exact der_rel hS h2 rq, toD_plain _, toD_plain _, Nat.le_trans (toD_depth _ _ h1) (by decide), ?_⟩
    show Q (.bl (!PyData.eqv (toD (der S p)) (toD (der S q)))) H
    rw [toD_eqv _ _ _ _ h1 h2, h3, Bool.not_not]
    exact hq
  | lt => exact num op_lt (fun i j => ilt_eq i j) (show cmpI p q (fun i j => ilt i j) = some b from hc)
  | le => exact num op_le (fun i j => ile_eq i j) (show cmpI p q (fun i j => ile i j) = some b from hc)
  | gt => exact num op_gt (fun i j => ilt_eq j i) (show cmpI p q (fun i j => ilt j i) = some b from hc)
  | ge => exact num op_ge (fun i j => ile_eq j i) (show cmpI p q (fun i j => ile j i) = some b from hc)
  | is =>
    cases q with
    | non =>
      have hb := isNone_some rp (show isNone p = some b from hc)
      simp only [RelP] at rq
      refine op_isN pins s σ H x y v u Q I rx ry ⟨rq, ?_⟩
      rw [hb]
      exact hq
    | _ => cases hc
  | isn =>
    cases q with
    | non =>
      have hb := isNone_some rp (oneg_some (show oneg (isNone p) = some b from hc))
      simp only [RelP] at rq
      refine op_notN pins s σ H x y v u Q I rx ry ⟨rq, ?_⟩
      rw [hb, Bool.not_not]
      exact hq
    | _ => cases hc
  | inn =>
    obtain ⟨l, h1, h2, h3, h4⟩ := isIn_some (show isIn S p q = some b from hc)
    obtain ⟨a, xs, e, hs, r⟩ := seq_ok hS rq h1
    refine op_inP hu pins s σ H x y v u Q I rx ry ⟨a, xs, toD (der S p), toDs l, e, by rw [hK]; exact hs, by rw [hK]; exact toDs_rel _ l xs h3 r, by rw [hK]; exact der_rel hS h2 rp, toDs_plain l, toD_plain _, Nat.le_trans (toD_depth _ _ h2) (by decide), ?_⟩
    show Q (.bl ((toDs l).any fun z => PyData.eqv z (toD (der S p)))) H
    rw [any_toDs _ _ _ h2 l h3, h4]
    exact hq
  | nin =>
    obtain ⟨l, h1, h2, h3, h4⟩ := isIn_some (oneg_some (show oneg (isIn S p q) = some b from hc))
    obtain ⟨a, xs, e, hs, r⟩ := seq_ok hS rq h1
    refine op_ninP hu pins s σ H x y v u Q I rx ry ⟨a, xs, toD (der S p), toDs l, e, by rw [hK]; exact hs, by rw [hK]; exact toDs_rel _ l xs h3 r, by rw [hK]; exact der_rel hS h2 rp, toDs_plain l, toD_plain _, Nat.le_trans (toD_depth _ _ h2) (by decide), ?_⟩
    show Q (.bl (!(toDs l).any fun z => PyData.eqv z (toD (der S p)))) H
    rw [any_toDs _ _ _ h2 l h3, h4, Bool.not_not]
    exact hq
end
end Rn
set_option maxHeartbeats 1000007
/-! The runner is right: expressions. -/
namespace Rn
open L2 PySem PyProof.Rows PySem.Spec

/-- no star, no slice, no set: an expression as it stands -/
def plainE : Expr → Bool
  | .Starred _ _ => false
  | .Slice _ _ _ _ => false
  | .Set _ _ _ => false
  | _ => true
theorem star_plain {e : Expr} (h : plainE e = true) (es : List Expr) (env : PySem.Env) : starEach (e :: es) env = (false, eval e env) :: starEach es env := by
  cases e <;> first | rfl | (simp [plainE] at h)
theorem ix_plain {e : Expr} (h : plainE e = true) : PlainIx e := by
  intro o i
  cases e <;> first | rfl | (simp [plainE] at h)
theorem mark_plain {e : Expr} (h : plainE e = true) (op : CmpOp) : behindInMarks op e = false := by
  cases e <;> first | rfl | (simp [plainE] at h)
theorem fold_plain {e : Expr} (h : plainE e = true) (env : PySem.Env) (x : Value) : foldedSetIterable e env x = pure x := by
  cases e <;> first | rfl | (simp [plainE] at h)
def plainEs (es : List Expr) : Bool := es.all plainE
theorem stars_plain {es : List Expr} (h : plainEs es = true) (pos : Pos) (env : PySem.Env) : (backTo pos (starEach es env)).any (·.1) = false := by
  induction es with
  | nil => rfl
  | cons e es ih =>
    have h' : (plainE e && plainEs es) = true := h
    obtain ⟨h1, h2⟩ := and2 h'
    rw [star_plain h1]
    show (false || (backTo pos (starEach es env)).any (·.1)) = false
    rw [ih h2]
    rfl

section
variable {X : Cx} {Φ : Fm} {W : WX} {m m1 : Mp} {H H1 : Hp} {S : Sto} {ρ : Env} {σ : L2.St} {pos p2 : Pos} {a b c : Expr} {f g k : Run}

/-! ### constants, names -/
theorem post_const {p : PV} {v : V} {Q : VK} (s : RelS Φ m S H) (h : PostE Φ W m H σ (.ok p S) Q) (r : RelP Φ m H p v) : Q v H := fin h s r
theorem pe_noneR {j : Nat} : PE X (.Constant .none j pos) (tR Φ W fun _ S => .ok .non S) := PE.of pe_non fun σ H Q ⟨m, ρ, S, s, e, h⟩ => fin h s (by simp only [RelP])
theorem pe_blR {t : Bool} {j : Nat} : PE X (.Constant (.bool t) j pos) (tR Φ W fun _ S => .ok (.bl t) S) := PE.of pe_bl fun σ H Q ⟨m, ρ, S, s, e, h⟩ => fin h s (by simp only [RelP])
theorem pe_intR {i : Int} {j : Nat} : PE X (.Constant (.int i) j pos) (tR Φ W fun _ S => .ok (.int i) S) := PE.of pe_int fun σ H Q ⟨m, ρ, S, s, e, h⟩ => fin h s (by simp only [RelP])
theorem pe_strR {x : Str} {j : Nat} (hz : Nat.ble x.cps.size lim = true) : PE X (.Constant (.str x) j pos) (tR Φ W fun _ S => .ok (.str x) S) :=
  PE.of pe_str fun σ H Q ⟨m, ρ, S, s, e, h⟩ => fin h s (by
    simp only [RelP]
    exact ⟨trivial, Nat.le_of_ble_eq_true hz⟩)
theorem pe_varR {i : Nat} {x : Str} (hN : X.N[i]? = some x) (hv : Vis X.env.scope x) (hd : (x == ("__debug__" : Str)) = false) (hcd : (x == ("__classdict__" : Str)) = false) :
    PE X (.Name x pos) (tR Φ W fun ρ S => getV ρ i S) := PE.of (pe_var hN hv hd hcd) fun σ H Q ⟨m, ρ, S, s, e, h⟩ => by
  have h : PostE Φ W m H σ (getV ρ i S) Q := h
  unfold getV at h
  split at h
  · rename_i p hp
    obtain ⟨v, h1, h2⟩ := e.2 i p hp
    exact ⟨v, h1, fin h s h2⟩
  · exact False.elim h
theorem pe_gfnR {n : Nat} {x : Str} (hg : Gl X x) (hm : X.mg x = some (.ref (Φ.A.fa n))) (hd : (x == ("__debug__" : Str)) = false) : PE X (.Name x pos) (tR Φ W fun _ S => .ok (.fn n) S) :=
  PE.of (pe_glob hg hm (v := .ref (Φ.A.fa n)) rfl hd) fun σ H Q ⟨m, ρ, S, s, e, h⟩ => fin h s (by simp only [RelP])
/-- a constant of the module: what it is, whatever the heap -/
def ConV (Φ : Fm) (u : Value) (p : PV) : Prop := ∃ v, RelV v u ∧ ∀ m H, RelP Φ m H p v
theorem pe_gcnR {n : Nat} {x : Str} {u : Value} {cons : Nat → Option PV} (hg : Gl X x) (hm : X.mg x = some u) (hc : ∀ p, cons n = some p → ConV Φ u p) (hd : (x == ("__debug__" : Str)) = false) (hs : ∃ p, cons n = some p) :
    PE X (.Name x pos) (tR Φ W fun _ S => opt (cons n) S) := by
  obtain ⟨p, hp⟩ := hs
  obtain ⟨v, h1, h2⟩ := hc p hp
  refine PE.of (pe_glob hg hm h1 hd) fun σ H Q ⟨m, ρ, S, s, e, h⟩ => ?_
  have h : PostE Φ W m H σ (opt (cons n) S) Q := h
  rw [hp] at h
  exact fin h s (h2 m H)
theorem pe_gtyR {x : Str} {t : String} (hg : Gl X x) (hm : X.mg x = none) (hv : bootBuiltins x = some (.type t)) (hn : x ≠ "__name__") (hd : (x == ("__debug__" : Str)) = false) :
    PE X (.Name x pos) (tR Φ W fun _ S => .ok (.ty t) S) :=
  PE.of (pe_bltn hg hm hv (v := .ty t) rfl hn hd) fun σ H Q ⟨m, ρ, S, s, e, h⟩ => fin h s (by simp only [RelP])

/-! ### argument lists, displays -/
theorem pa_nilR : PA X [] (tRA Φ W fun _ S => .ok (.lst []) S) := PA.of pa_nil fun σ H Q ⟨m, ρ, S, s, e, h⟩ => finA h s RelPs.nil
theorem pa_consR {es : List Expr} (hp : plainE a = true) (ha : PE X a (tR Φ W f)) (hr : PA X es (tRA Φ W g)) :
    PA X (a :: es) (tRA Φ W fun ρ S => (f ρ S).bind fun v S1 => (g ρ S1).bind fun r S2 => withL r fun vs => .ok (.lst (v :: vs)) S2) := by
  refine PA.of (pa_cons ha hr (star_plain hp es X.env)) fun σ H Q ⟨m, ρ, S, s, e, h⟩ => ?_
  show tR Φ W f σ H fun x H1 => tRA Φ W g σ H1 fun xs H2 => Q (x :: xs) H2
  refine ⟨m, ρ, S, s, e, ?_⟩
  dsimp only at h
  cases h1 : f ρ S with
  | no =>
    rw [h1] at h
    exact h
  | ex c S1 =>
    rw [h1] at h
    exact h
  | ok p S1 =>
    rw [h1] at h
    intro m1 H1 x e1 s1 r1
    refine ⟨m1, ρ, S1, s1, e.ext e1, ?_⟩
    have h : PostA Φ W m H σ ((g ρ S1).bind fun r S2 => withL r fun vs => .ok (.lst (p :: vs)) S2) Q := h
    have h := PostA.ext e1 h
    cases h2 : g ρ S1 with
    | no =>
      rw [h2] at h
      exact h
    | ex c S1 =>
      rw [h2] at h
      exact h
    | ok q S2 =>
      rw [h2] at h
      have h : PostA Φ W m1 H1 σ (withL q fun vs => .ok (.lst (p :: vs)) S2) Q := h
      cases q with
      | lst l =>
        obtain ⟨l', e', h⟩ := h
        cases e'
        refine ⟨l, rfl, fun m2 H2 vs e2 s2 r2 => h m2 H2 (x :: vs) e2 s2 (RelPs.cons (r1.ext e2) r2)⟩
      | _ => exact False.elim h
theorem pe_tupR {es : List Expr} {j : Nat} (h : PA X es (tRA Φ W f)) : PE X (.Tuple es j pos) (tR Φ W fun ρ S => (f ρ S).bind fun r S1 => withL r fun vs => mkT vs S1) := by
  refine PE.of (pe_tupF h) fun σ H Q ⟨m, ρ, S, s, e, h⟩ => ?_
  refine chainA s e h fun l S1 m1 H1 vs e1 s1 E1 r1 h1 => ⟨?_, mkT_ok s1 r1 h1⟩
  rw [← r1.length]
  exact size_lim (mkT_len h1)
theorem pe_lstR {es : List Expr} {bx : Bool} (h : PA X es (tRA Φ W f)) : PE X (.List es pos) (tR Φ W fun ρ S => (f ρ S).bind fun r S1 => withL r fun vs => mk bx vs S1) := by
  refine PE.of (pe_lst h) fun σ H Q ⟨m, ρ, S, s, e, h⟩ => ?_
  refine chainA s e h fun l S1 m1 H1 vs e1 s1 E1 r1 h1 => ⟨?_, fun p hp => (mk_ok s1 r1 h1 hp).2⟩
  rw [← r1.length]
  exact size_lim (mk_len h1)

/-! ### - a, comparisons -/
theorem pe_negR (ha : PE X a (tR Φ W f)) : PE X (.UnaryOp .USub a pos) (tR Φ W fun ρ S => (f ρ S).bind fun v S1 => match v with
    | .int i => .ok (.int (-i)) S1
    | _ => .no) := by
  refine PE.of (pe_un un_neg ha) fun σ H Q ⟨m, ρ, S, s, e, h⟩ => ?_
  refine chain s e h fun p S1 m1 H1 x e1 s1 E1 r1 h1 => ?_
  cases p with
  | int i =>
    simp only [RelP] at r1
    exact ⟨i, r1, fin h1 s1 (by simp only [RelP])⟩
  | _ => exact False.elim h1
theorem cmp_fin {o : Co} {p q : PV} {x y : V} {Q : VK} (s : RelS Φ m S H) (rx : RelP Φ m H p x) (ry : RelP Φ m H q y) (h : PostE Φ W m H σ (withO (cmpop o p q S) fun r => .ok (.bl r) S) Q) : CmpR Φ o x y H Q := by
  cases e : cmpop o p q S with
  | none =>
    rw [e] at h
    exact False.elim h
  | some b =>
    rw [e] at h
    exact ⟨m, S, p, q, b, s, rx, ry, e, fin h s (by simp only [RelP])⟩
theorem pe_cmpRR {o : Co} {op : CmpOp} (ho : CoOk o op) (hK : X.K = Φ.K) (hu : RUnits X) (hb0 : plainE b = true) (ha : PE X a (tR Φ W f)) (hb : PE X b (tR Φ W g)) :
    PE X (.Compare a [op] [b] pos) (tR Φ W fun ρ S => (f ρ S).bind fun v S1 => (g ρ S1).bind fun w S2 => withO (cmpop o v w S2) fun r => .ok (.bl r) S2) := by
  refine PE.of (pe_cmpR (op_cmp ho hK hu) ha hb (mark_plain hb0 op)) fun σ H Q ⟨m, ρ, S, s, e, h⟩ => ?_
  exact chain s e h fun p S1 m1 H1 x e1 s1 E1 r1 h1 => chain s1 E1 h1 fun q S2 m2 H2 y e2 s2 E2 r2 h2 => cmp_fin s2 (r1.ext e2) r2 h2
theorem marks2 {op op' : CmpOp} (hc : plainE c = true) : lastMarks [op, op'] [b, c] = false := by
  have h := mark_plain hc op'
  with_unfolding_all exact h
theorem pe_chnR {o o' : Co} {op op' : CmpOp} (ho : CoOk o op) (ho' : CoOk o' op') (hK : X.K = Φ.K) (hu : RUnits X) (hc0 : plainE c = true) (ha : PE X a (tR Φ W f)) (hb : PE X b (tR Φ W g)) (hc : PE X c (tR Φ W k)) :
    PE X (.Compare a [op, op'] [b, c] pos) (tR Φ W fun ρ S => (f ρ S).bind fun v S1 => (g ρ S1).bind fun w S2 => withO (cmpop o v w S2) fun r =>
      if r then (k ρ S2).bind fun z S3 => withO (cmpop o' w z S3) fun r => .ok (.bl r) S3 else .ok (.bl false) S2) := by
  refine PE.of (pe_chain (op_cmp ho hK hu) (op_cmp ho' hK hu) ha hb hc (marks2 hc0)) fun σ H Q ⟨m, ρ, S, s, e, h⟩ => ?_
  refine chain s e h fun p S1 m1 H1 x e1 s1 E1 r1 h1 => chain s1 E1 h1 fun q S2 m2 H2 y e2 s2 E2 r2 h2 => ?_
  cases ec : cmpop o p q S2 with
  | none =>
    rw [ec] at h2
    exact False.elim h2
  | some b =>
    rw [ec] at h2
    refine ⟨m2, S2, p, q, b, s2, r1.ext e2, r2, ec, b, rfl, ?_⟩
    cases b with
    | false => exact fin h2 s2 (by simp only [RelP])
    | true => exact chain s2 E2 h2 fun z S3 m3 H3 w e3 s3 E3 r3 h3 => cmp_fin s3 (r2.ext e3) r3 h3

/-! ### truth: not, and, or, if -/
theorem pe_notR (ha : PE X a (tR Φ W f)) (hK : X.K = Φ.K) : PE X (.UnaryOp .Not a pos) (tR Φ W fun ρ S => (f ρ S).bind fun v S1 => withO (truth S1 v) fun b => .ok (.bl (!b)) S1) := by
  refine PE.of (pe_notT ha) fun σ H Q ⟨m, ρ, S, s, e, h⟩ => ?_
  refine chain s e h fun p S1 m1 H1 x e1 s1 E1 r1 h1 => ?_
  cases et : truth S1 p with
  | none =>
    rw [et] at h1
    exact False.elim h1
  | some b =>
    rw [et] at h1
    exact ⟨b, by rw [hK]; exact truth_ok s1 r1 et, fin h1 s1 (by simp only [RelP])⟩
theorem pe_andR {rest : List Expr} (hK : X.K = Φ.K) (ha : PE X a (tR Φ W f)) (hb : PE X (.BoolOp .And (b :: rest) pos) (tR Φ W g)) :
    PE X (.BoolOp .And (a :: b :: rest) pos) (tR Φ W fun ρ S => (f ρ S).bind fun v S1 => withO (truth S1 v) fun t => if t then g ρ S1 else .ok v S1) := by
  refine PE.of (pe_andT ha hb) fun σ H Q ⟨m, ρ, S, s, e, h⟩ => ?_
  refine chain s e h fun p S1 m1 H1 x e1 s1 E1 r1 h1 => ?_
  cases et : truth S1 p with
  | none =>
    rw [et] at h1
    exact False.elim h1
  | some b =>
    rw [et] at h1
    refine ⟨b, by rw [hK]; exact truth_ok s1 r1 et, ?_⟩
    cases b with
    | true => exact ⟨m1, ρ, S1, s1, E1, h1⟩
    | false => exact fin h1 s1 r1
theorem pe_orR {rest : List Expr} (hK : X.K = Φ.K) (ha : PE X a (tR Φ W f)) (hb : PE X (.BoolOp .Or (b :: rest) pos) (tR Φ W g)) :
    PE X (.BoolOp .Or (a :: b :: rest) pos) (tR Φ W fun ρ S => (f ρ S).bind fun v S1 => withO (truth S1 v) fun t => if t then .ok v S1 else g ρ S1) := by
  refine PE.of (pe_orT ha hb) fun σ H Q ⟨m, ρ, S, s, e, h⟩ => ?_
  refine chain s e h fun p S1 m1 H1 x e1 s1 E1 r1 h1 => ?_
  cases et : truth S1 p with
  | none =>
    rw [et] at h1
    exact False.elim h1
  | some b =>
    rw [et] at h1
    refine ⟨b, by rw [hK]; exact truth_ok s1 r1 et, ?_⟩
    cases b with
    | true => exact fin h1 s1 r1
    | false => exact ⟨m1, ρ, S1, s1, E1, h1⟩
theorem pe_iteR (hc : PT X c (tRT Φ W k)) (ha : PE X a (tR Φ W f)) (hb : PE X b (tR Φ W g)) :
    PE X (.IfExp c a b pos) (tR Φ W fun ρ S => (k ρ S).bind fun v S1 => withO (truth S1 v) fun t => if t then f ρ S1 else g ρ S1) := by
  refine PE.of (pe_ifExp hc ha hb) fun σ H Q ⟨m, ρ, S, s, e, h⟩ => ?_
  show tRT Φ W k σ H fun c H1 => if c = true then tR Φ W f σ H1 Q else tR Φ W g σ H1 Q
  refine ⟨m, ρ, S, s, e, ?_⟩
  dsimp only at h
  cases h1 : k ρ S with
  | no =>
    rw [h1] at h
    exact h
  | ex c S1 =>
    rw [h1] at h
    exact h
  | ok p S1 =>
    rw [h1] at h
    have h : PostE Φ W m H σ (withO (truth S1 p) fun t => if t then f ρ S1 else g ρ S1) Q := h
    cases et : truth S1 p with
    | none =>
      rw [et] at h
      exact False.elim h
    | some b =>
      rw [et] at h
      refine ⟨b, et, fun m1 H1 e1 s1 => ?_⟩
      have h := PostE.ext e1 h
      cases b with
      | true => exact ⟨m1, ρ, S1, s1, e.ext e1, h⟩
      | false => exact ⟨m1, ρ, S1, s1, e.ext e1, h⟩
/-! ### tests -/
/-- its test is its value's truth -/
def plainT : Expr → Bool
  | .UnaryOp .Not _ _ => false
  | .BoolOp _ _ _ => false
  | .IfExp _ _ _ _ => false
  | .Compare _ _ _ _ => false
  | _ => true
theorem isTrue_of {e : Expr} (h : plainT e = true) (env : PySem.Env) (whole : Sem Value) : isTrue e env whole = (do let v ← whole; standAt e.pos; holding [v] (truthy v)) := by
  cases e with
  | UnaryOp op x p => cases op <;> first | rfl | (simp [plainT] at h)
  | BoolOp => simp [plainT] at h
  | IfExp => simp [plainT] at h
  | Compare => simp [plainT] at h
  | _ => rfl
/-- the truth of what the runner tells -/
theorem postT_of {r : R PV} {Q : Bool → Hp → Prop} (h : PostT Φ W m H σ r Q) (hK : X.K = Φ.K) : PostE Φ W m H σ r fun x H' => ∃ k, TruV X.K x H' k ∧ Q k H' := by
  cases r with
  | no => exact h
  | ex c S => exact h
  | ok p S =>
    obtain ⟨b, et, h⟩ := h
    exact fun m1 H1 v e1 s1 r1 => ⟨b, by rw [hK]; exact truth_ok s1 r1 et, h m1 H1 e1 s1⟩
theorem pt_plainR (hp : plainT a = true) (hK : X.K = Φ.K) (ha : PE X a (tR Φ W f)) : PT X a (tRT Φ W f) :=
  PT.of (pt_truth ha (isTrue_of hp X.env)) fun σ H Q ⟨m, ρ, S, s, e, h⟩ => ⟨m, ρ, S, s, e, postT_of h hK⟩
theorem pt_cmpRR {o : Co} {op : CmpOp} (ho : CoOk o op) (hK : X.K = Φ.K) (hu : RUnits X) (hb0 : plainE b = true) (ha : PE X a (tR Φ W f)) (hb : PE X b (tR Φ W g)) :
    PT X (.Compare a [op] [b] pos) (tRT Φ W fun ρ S => (f ρ S).bind fun v S1 => (g ρ S1).bind fun w S2 => withO (cmpop o v w S2) fun r => .ok (.bl r) S2) := by
  refine PT.of (pt_cmpR (op_cmp ho hK hu) ha hb (mark_plain hb0 op)) fun σ H Q ⟨m, ρ, S, s, e, h⟩ => ?_
  have h := postT_of (X := X) h hK
  refine chain s e h fun p S1 m1 H1 x e1 s1 E1 r1 h1 => chain s1 E1 h1 fun q S2 m2 H2 y e2 s2 E2 r2 h2 => ?_
  cases ec : cmpop o p q S2 with
  | none =>
    rw [ec] at h2
    exact False.elim h2
  | some t =>
    rw [ec] at h2
    obtain ⟨k, hk, q1⟩ := fin h2 s2 (show RelP Φ m2 H2 (.bl t) (.bl t) by simp only [RelP])
    have hk : k = t := hk
    subst hk
    exact ⟨m2, S2, p, q, k, s2, r1.ext e2, r2, ec, k, rfl, q1⟩
theorem pt_chnR {o o' : Co} {op op' : CmpOp} (ho : CoOk o op) (ho' : CoOk o' op') (hK : X.K = Φ.K) (hu : RUnits X) (hc0 : plainE c = true) (ha : PE X a (tR Φ W f)) (hb : PE X b (tR Φ W g)) (hc : PE X c (tR Φ W k)) :
    PT X (.Compare a [op, op'] [b, c] pos) (tRT Φ W fun ρ S => (f ρ S).bind fun v S1 => (g ρ S1).bind fun w S2 => withO (cmpop o v w S2) fun r =>
      if r then (k ρ S2).bind fun z S3 => withO (cmpop o' w z S3) fun r => .ok (.bl r) S3 else .ok (.bl false) S2) := by
  refine PT.of (pt_chain (op_cmp ho hK hu) (op_cmp ho' hK hu) ha hb hc (marks2 hc0)) fun σ H Q ⟨m, ρ, S, s, e, h⟩ => ?_
  have h := postT_of (X := X) h hK
  have done : ∀ {t : Bool} {m2 : Mp} {H2 : Hp} {S2 : Sto}, RelS Φ m2 S2 H2 → PostE Φ W m2 H2 σ (.ok (.bl t) S2) (fun x H' => ∃ k, TruV X.K x H' k ∧ Q k H') → ∃ k, V.bl t = .bl k ∧ Q k H2 := fun {t m2 H2 S2} s2 h2 => by
    obtain ⟨k, hk, q1⟩ := fin h2 s2 (show RelP Φ m2 H2 (.bl t) (.bl t) by simp only [RelP])
    have hk : k = t := hk
    subst hk
    exact ⟨k, rfl, q1⟩
  refine chain s e h fun p S1 m1 H1 x e1 s1 E1 r1 h1 => chain s1 E1 h1 fun q S2 m2 H2 y e2 s2 E2 r2 h2 => ?_
  cases ec : cmpop o p q S2 with
  | none =>
    rw [ec] at h2
    exact False.elim h2
  | some b =>
    rw [ec] at h2
    refine ⟨m2, S2, p, q, b, s2, r1.ext e2, r2, ec, b, rfl, ?_⟩
    cases b with
    | false => exact done s2 h2
    | true =>
      refine chain s2 E2 h2 fun z S3 m3 H3 w e3 s3 E3 r3 h3 => ?_
      cases ec' : cmpop o' q z S3 with
      | none =>
        rw [ec'] at h3
        exact False.elim h3
      | some t =>
        rw [ec'] at h3
        exact ⟨m3, S3, q, z, t, s3, r2.ext e3, r3, ec', done s3 h3⟩
/-- from a test of a part to a test of the whole -/
theorem chainTT {g : PV → Sto → R PV} {Q Q1 : Bool → Hp → Prop} (s : RelS Φ m S H) (e : RelE Φ m H ρ σ) (h : PostT Φ W m H σ ((f ρ S).bind g) Q)
    (k : ∀ p S1 b m1 H1, truth S1 p = some b → Ext m H m1 H1 → RelS Φ m1 S1 H1 → RelE Φ m1 H1 ρ σ → PostT Φ W m1 H1 σ (g p S1) Q → Q1 b H1) (ht : ∀ p S1, truth S1 p = none → ∀ Q, ¬ PostT Φ W m H σ (g p S1) Q) : tRT Φ W f σ H Q1 := by
  refine ⟨m, ρ, S, s, e, ?_⟩
  cases hr : f ρ S with
  | ok p S1 =>
    rw [hr] at h
    cases et : truth S1 p with
    | none => exact (ht p S1 et Q h).elim
    | some b => exact ⟨b, et, fun m1 H1 e1 s1 => k p S1 b m1 H1 et e1 s1 (e.ext e1) (PostT.ext e1 h)⟩
  | ex c S1 =>
    rw [hr] at h
    exact h
  | no =>
    rw [hr] at h
    exact h
theorem finT {p : PV} {t : Bool} {Q : Bool → Hp → Prop} (h : PostT Φ W m H σ (.ok p S) Q) (s : RelS Φ m S H) (et : truth S p = some t) : Q t H := by
  obtain ⟨b, e, h⟩ := h
  rw [et] at e
  cases e
  exact h m H Ext.refl s
theorem pt_notR (ha : PT X a (tRT Φ W f)) : PT X (.UnaryOp .Not a pos) (tRT Φ W fun ρ S => (f ρ S).bind fun v S1 => withO (truth S1 v) fun b => .ok (.bl (!b)) S1) := by
  refine PT.of (pt_not ha) fun σ H Q ⟨m, ρ, S, s, e, h⟩ => ?_
  refine chainTT s e h (fun p S1 b m1 H1 et e1 s1 E1 h1 => ?_) fun p S1 et Q h => by
    rw [et] at h
    exact h
  rw [et] at h1
  exact finT h1 s1 rfl
theorem pw_andR {rest : List Expr} (ha : PT X a (tRT Φ W f)) (hb : PW X (.BoolOp .And (b :: rest) pos) (tRT Φ W g)) :
    PW X (.BoolOp .And (a :: b :: rest) pos) (tRT Φ W fun ρ S => (f ρ S).bind fun v S1 => withO (truth S1 v) fun t => if t then g ρ S1 else .ok v S1) := by
  refine ⟨fun wh pins s σ H Q I h => (pw_and ha hb).run wh pins s σ H Q I ?_⟩
  obtain ⟨m, ρ, S, s, e, h⟩ := h
  refine chainTT s e h (fun p S1 t m1 H1 et e1 s1 E1 h1 => ?_) fun p S1 et Q h => by
    rw [et] at h
    exact h
  rw [et] at h1
  cases t with
  | true => exact ⟨m1, ρ, S1, s1, E1, h1⟩
  | false => exact finT h1 s1 et
theorem pw_orR {rest : List Expr} (ha : PT X a (tRT Φ W f)) (hb : PW X (.BoolOp .Or (b :: rest) pos) (tRT Φ W g)) :
    PW X (.BoolOp .Or (a :: b :: rest) pos) (tRT Φ W fun ρ S => (f ρ S).bind fun v S1 => withO (truth S1 v) fun t => if t then .ok v S1 else g ρ S1) := by
  refine ⟨fun wh pins s σ H Q I h => (pw_or ha hb).run wh pins s σ H Q I ?_⟩
  obtain ⟨m, ρ, S, s, e, h⟩ := h
  refine chainTT s e h (fun p S1 t m1 H1 et e1 s1 E1 h1 => ?_) fun p S1 et Q h => by
    rw [et] at h
    exact h
  rw [et] at h1
  cases t with
  | true => exact finT h1 s1 et
  | false => exact ⟨m1, ρ, S1, s1, E1, h1⟩
theorem pt_iteR (hc : PT X c (tRT Φ W k)) (ha : PT X a (tRT Φ W f)) (hb : PT X b (tRT Φ W g)) :
    PT X (.IfExp c a b pos) (tRT Φ W fun ρ S => (k ρ S).bind fun v S1 => withO (truth S1 v) fun t => if t then f ρ S1 else g ρ S1) := by
  refine ⟨fun pins s σ H Q I h =>
        ?_⟩
  show wpAny (model X.prog X.w) X.A (do if ← isTrue c X.env (eval c X.env) then isTrue a X.env (eval a X.env) else isTrue b X.env (eval b X.env)) _ _ _
  obtain ⟨m, ρ, S, s0, e, h⟩ := h
  have key : tRT Φ W k σ H fun t H1 => if t = true then tRT Φ W f σ H1 Q else tRT Φ W g σ H1 Q := by
    refine chainTT s0 e h (fun p S1 t m1 H1 et e1 s1 E1 h1 => ?_) fun p S1 et Q h => by
      rw [et] at h
      exact h
    rw [et] at h1
    cases t with
    | true => exact ⟨m1, ρ, S1, s1, E1, h1⟩
    | false => exact ⟨m1, ρ, S1, s1, E1, h1⟩
  refine wpAny_bind (thn (hc.run pins s σ H _ I key) fun t s1 ⟨H1, I1, q1⟩ => ?_)
  cases t with
  | true =>
        exact ha.run pins s1 σ H1 Q I1 q1
  | false =>
        exact hb.run pins s1 σ H1 Q I1 q1
end
end Rn
set_option maxHeartbeats 1000007
/-! The runner is right: places, slices, built-ins. -/
namespace Rn
open L2 PySem PyProof.Rows PySem.Spec

theorem blt_true {n k : Nat} (h : Nat.blt n k = true) : n < k := Nat.le_of_ble_eq_true h
theorem ixN_eq (n : Nat) (i : Int) : ixN n i = L2.ixN n i := by
  unfold ixN L2.ixN
  cases i with
  | ofNat k =>
    simp only
    rw [if_pos (by simp only [Int.ofNat_eq_natCast]; omega : (0 : Int) ≤ Int.ofNat k)]
    by_cases h : k < n
    · rw [if_pos (show Nat.blt k n = true from Nat.ble_eq_true_of_le h), if_pos (by simp only [Int.ofNat_eq_natCast]; omega)]
      rfl
    · rw [if_neg (fun z => h (blt_true z)), if_neg (by simp only [Int.ofNat_eq_natCast]; omega)]
  | negSucc k =>
    simp only
    rw [if_neg (by omega : ¬ (0 : Int) ≤ Int.negSucc k)]
    by_cases h : k < n
    · rw [if_pos (show Nat.blt k n = true from Nat.ble_eq_true_of_le h), if_pos (by omega)]
      refine congrArg some (by omega)
    · rw [if_neg (fun z => h (blt_true z)), if_neg (by omega)]
theorem clip_eq2 (n d : Nat) (o : Option Int) : clip n d o = HT.sIx n d o := by
  cases o with
  | none => rfl
  | some i =>
    cases i with
    | ofNat k =>
      rw [show HT.sIx n d (some (Int.ofNat k)) = min k n from HT.sIx_nat n d k]
      unfold clip
      simp only
      by_cases h : k ≤ n
      · rw [if_pos (Nat.ble_eq_true_of_le h), Nat.min_eq_left h]
      · rw [if_neg (fun z => h (Nat.le_of_ble_eq_true z)), Nat.min_eq_right (by omega)]
    | negSucc k =>
      have h := HT.clip_eq (Int.negSucc k) n d
      rw [if_pos (by omega)] at h
      unfold clip
      simp only
      omega
theorem cut_eq (l : List PV) (lo hi : Option Int) : cut l lo hi = (l.drop (HT.sIx l.length 0 lo)).take (HT.sIx l.length l.length hi - HT.sIx l.length 0 lo) := by
  unfold cut
  rw [clip_eq2, clip_eq2]

section
variable {X : Cx} {Φ : Fm} {W : WX} {m m1 : Mp} {H H1 : Hp} {S : Sto} {ρ : Env} {σ : L2.St} {pos p2 p : Pos} {a b c : Expr} {f g k : Run}

theorem RelPs.cut {l : List PV} {xs : List V} (r : RelPs Φ m H l xs) (lo hi : Option Int) : RelPs Φ m H (Rn.cut l lo hi) (cutV xs lo hi) := by
  rw [cut_eq]
  unfold cutV
  rw [← r.length]
  exact (r.drop _).take _

/-! ### a[i] -/
theorem getI_ok {l : List PV} {xs : List V} {i : Int} {q : PV} (r : RelPs Φ m H l xs) (h : getI l i = some q) : ∃ v, atI xs i = some v ∧ RelP Φ m H q v := by
  unfold getI at h
  rw [ixN_eq, r.length] at h
  cases e : L2.ixN xs.length i with
  | none =>
    rw [e] at h
    cases h
  | some j =>
    rw [e] at h
    obtain ⟨v, h1, h2⟩ := r.get h
    exact ⟨v, by unfold atI; rw [e]; exact h1, h2⟩
theorem idx_ok {pv iv : PV} {x y : V} {Q : VK} (s : RelS Φ m S H) (rx : RelP Φ m H pv x) (ry : RelP Φ m H iv y) (h : PostE Φ W m H σ (idxV pv iv S) Q) : rIx Φ.K x y H Q := by
  cases iv with
  | int i =>
    simp only [RelP] at ry
    have seqs : ∀ {pv : PV}, RelP Φ m H pv x → PostE Φ W m H σ (withO (seqOf S pv) fun l => opt (getI l i) S) Q → rIx Φ.K x y H Q := fun {pv} rx h => by
      cases e1 : seqOf S pv with
      | none =>
        rw [e1] at h
        exact False.elim h
      | some l =>
        rw [e1] at h
        have h : PostE Φ W m H σ (opt (getI l i) S) Q := h
        cases e2 : getI l i with
        | none =>
          rw [e2] at h
          exact False.elim h
        | some q =>
          rw [e2] at h
          obtain ⟨a, xs, ex, hs, r⟩ := seq_ok s rx e1
          obtain ⟨v, h1, h2⟩ := getI_ok r e2
          rcases hs with hs | hs
          · exact .inl ⟨a, xs, i, v, ex, ry, hs, h1, fin h s h2⟩
          · exact .inr (.inl ⟨a, xs, i, v, ex, ry, hs, h1, fin h s h2⟩)
    cases pv with
    | str z =>
      simp only [RelP] at rx
      have h : PostE Φ W m H σ (match ixN z.cps.size i with
        | some j => .ok (.str ⟨#[z.cps.toList.getD j 0]⟩) S
        | none => .no) Q := h
      rw [ixN_eq] at h
      cases e : L2.ixN z.cps.size i with
      | none =>
        rw [e] at h
        exact False.elim h
      | some j =>
        rw [e] at h
        have hj := (ixN_seq e).2.1
        refine .inr (.inr ⟨z, i, z.cps.toList.getD j 0, rx.1, ry, size_lim rx.2, ?_, fin h s ?_⟩)
        · unfold atI
          rw [show z.cps.toList.length = z.cps.size from Array.length_toList, e]
          show z.cps.toList[j]? = some (z.cps.toList.getD j 0)
          rw [List.getD_eq_getElem?_getD, List.getElem?_eq_getElem (by rw [Array.length_toList]; exact hj)]
          rfl
        · simp only [RelP]
          exact ⟨trivial, by show 1 ≤ 1000000; decide⟩
    | tup l => exact seqs rx h
    | lst l => exact seqs rx h
    | klst l => exact seqs rx h
    | box n => exact seqs rx h
    | non => exact seqs rx h
    | bl b => exact seqs rx h
    | int i => exact seqs rx h
    | fn f => exact seqs rx h
    | ty t => exact seqs rx h
    | xc c l => exact seqs rx h
  | _ => exact False.elim h
theorem pe_idxR (hK : X.K = Φ.K) (hb0 : plainE b = true) (ha : PE X a (tR Φ W f)) (hb : PE X b (tR Φ W g)) :
    PE X (.Subscript a b pos) (tR Φ W fun ρ S => (f ρ S).bind fun v S1 => (g ρ S1).bind fun i S2 => idxV v i S2) := by
  refine PE.of (pe_ix ix_seq ha hb (ix_plain hb0)) fun σ H Q ⟨m, ρ, S, s, e, h⟩ => ?_
  rw [hK]
  exact chain s e h fun p S1 m1 H1 x e1 s1 E1 r1 h1 => chain s1 E1 h1 fun q S2 m2 H2 y e2 s2 E2 r2 h2 => idx_ok s2 (r1.ext e2) r2 h2

/-! ### a[lo:hi] -/
/-- a part of a slice -/
def PostO (Φ : Fm) (W : WX) (m : Mp) (H : Hp) (σ : L2.St) (r : R PV) (Q : Option Int → Hp → Prop) : Prop := match r with
  | .ok p S => ∃ o, oint p = some o ∧ ∀ m' H', Ext m H m' H' → RelS Φ m' S H' → Q o H'
  | .ex c S => ∀ cls d m' H', Ext m H m' H' → RelS Φ m' S H' → RelX Φ m' H' c cls d → W cls d σ H'
  | .no => False
def tRO (Φ : Fm) (W : WX) (f : Run) : TO := fun σ H Q => ∃ m ρ S, RelS Φ m S H ∧ RelE Φ m H ρ σ ∧ PostO Φ W m H σ (f ρ S) Q
theorem po_absR : PO X none (tRO Φ W fun _ S => .ok .non S) := ⟨fun pins s σ H Q I ⟨m, ρ, S, s0, e, o, eo, h⟩ => po_none.run pins s σ H Q I (by
  cases eo
  exact h m H Ext.refl s0)⟩
theorem po_prtR (ha : PE X a (tR Φ W f)) : PO X (some a) (tRO Φ W fun ρ S => (f ρ S).bind fun v S1 => match v with
    | .int i => .ok (.int i) S1
    | _ => .no) := by
  refine ⟨fun pins s σ H Q I ⟨m, ρ, S, s0, e, h⟩ => (po_some ha).run pins s σ H Q I ?_⟩
  show tR Φ W f σ H fun x H1 => ∃ i, x = .int i ∧ Q (some i) H1
  refine ⟨m, ρ, S, s0, e, ?_⟩
  dsimp only at h
  cases h1 : f ρ S with
  | no =>
    rw [h1] at h
    exact h
  | ex c S1 =>
    rw [h1] at h
    exact h
  | ok q S1 =>
    rw [h1] at h
    cases q with
    | int i =>
      obtain ⟨o, eo, h⟩ := h
      cases eo
      intro m1 H1 v e1 s1 r1
      simp only [RelP] at r1
      exact ⟨i, r1, h m1 H1 e1 s1⟩
    | _ => exact False.elim h
theorem chainO {f : Run} {g : Option Int → PV → Sto → R PV} {Q : VK} {Q1 : Option Int → Hp → Prop} (s : RelS Φ m S H) (e : RelE Φ m H ρ σ) {g0 : PV → Sto → R PV} (h : PostE Φ W m H σ ((f ρ S).bind g0) Q)
    (hg : ∀ p S1 Q', PostE Φ W m H σ (g0 p S1) Q' → ∃ o, oint p = some o)
    (k : ∀ p o S1 m1 H1, oint p = some o → Ext m H m1 H1 → RelS Φ m1 S1 H1 → RelE Φ m1 H1 ρ σ → PostE Φ W m1 H1 σ (g0 p S1) Q → Q1 o H1) : tRO Φ W f σ H Q1 := by
  refine ⟨m, ρ, S, s, e, ?_⟩
  cases hr : f ρ S with
  | ok p S1 =>
    rw [hr] at h
    obtain ⟨o, eo⟩ := hg p S1 Q h
    exact ⟨o, eo, fun m1 H1 e1 s1 => k p o S1 m1 H1 eo e1 s1 (e.ext e1) (PostE.ext e1 h)⟩
  | ex c S1 =>
    rw [hr] at h
    exact h
  | no =>
    rw [hr] at h
    exact h
def ASl (K : PySem.W.Frag) : V → Option Int → Option Int → Hp → VK → Prop := fun x lo hi H Q => rSlF K x lo hi H Q ∨ (rSlL K x lo hi H Q ∨ C8.rSlX x lo hi H Q)
theorem sl_all : SlR X (ASl X.K) := sl_tupF.or (sl_list.or C8.sl_txt)
theorem str_ext {x y : Str} (h : x.cps.toList = y.cps.toList) : x = y := by
  cases x
  cases y
  simp only [Str.mk.injEq]
  exact Array.toList_inj.mp h
theorem cutS_eq (z : Str) (lo hi : Option Int) : cutS z lo hi = cutStr z lo hi := by
  refine str_ext ?_
  unfold cutS cutStr
  first
    | (simp only [clip_eq2, Str.length]; done)
    | (simp only [clip_eq2, Str.length]; rfl)
theorem sl_ok {pv : PV} {l h' : PV} {x : V} {lo hi : Option Int} {bx : Bool} {Q : VK} (s : RelS Φ m S H) (rx : RelP Φ m H pv x) (e1 : oint l = some lo) (e2 : oint h' = some hi) (h : PostE Φ W m H σ (sliceV bx pv l h' S) Q) : ASl Φ.K x lo hi H Q := by
  have es : ∀ z, slice z l h' = some (cut z lo hi) := fun z => by
    unfold slice
    rw [e1, e2]
  have lists : ∀ {pv : PV} {a : Addr} {xs : List V} {z : List PV}, seqOf S pv = some z → x = .ref a → SqL Φ.K H a xs → RelPs Φ m H z xs → PostE Φ W m H σ (withO (seqOf S pv) fun l0 => withO (slice l0 l h') fun r => mk bx r S) Q → ASl Φ.K x lo hi H Q := fun {pv a xs z} ez ex hs r h => by
    rw [ez] at h
    have h : PostE Φ W m H σ (withO (slice z l h') fun r => mk bx r S) Q := h
    rw [es] at h
    exact .inr (.inl ⟨a, xs, ex, hs, fun p hp => (mk_ok s (r.cut lo hi) h hp).2⟩)
  cases pv with
  | str z =>
    simp only [RelP] at rx
    have h : PostE Φ W m H σ (withO (oint l) fun a => withO (oint h') fun b => .ok (.str (cutStr z a b)) S) Q := h
    rw [e1] at h
    have h : PostE Φ W m H σ (withO (oint h') fun b => .ok (.str (cutStr z lo b)) S) Q := h
    rw [e2] at h
    refine .inr (.inr ⟨z, rx.1, size_lim rx.2, ?_⟩)
    rw [← C8.cutS_slice, cutS_eq]
    refine fin h s ?_
    simp only [RelP]
    refine ⟨trivial, Nat.le_trans ?_ rx.2⟩
    show (((z.cps.toList.drop _).take _).toArray).size ≤ _
    rw [List.size_toArray]
    rw [List.length_take, List.length_drop, Array.length_toList]
    omega
  | tup z =>
    have h : PostE Φ W m H σ (withO (slice z l h') fun r => mkT r S) Q := h
    rw [es] at h
    have h : PostE Φ W m H σ (mkT (cut z lo hi) S) Q := h
    simp only [RelP] at rx
    obtain ⟨a, xs, ex, h1, r⟩ := rx
    refine .inl ⟨a, xs, ex, h1.sq, fun e => ?_, mkT_ok s (r.cut lo hi) h⟩
    have r2 := r.cut lo hi
    rw [e] at r2
    exact mkT_old s h1 r2 h
  | lst z =>
    simp only [RelP] at rx
    obtain ⟨a, xs, ex, h1, r⟩ := rx
    exact lists (pv := .lst z) rfl ex h1.sq r h
  | klst z =>
    simp only [RelP] at rx
    obtain ⟨a, xs, ex, h1, r⟩ := rx
    exact lists (pv := .klst z) rfl ex h1.sq r h
  | box n =>
    have h : PostE Φ W m H σ (withO (seqOf S (.box n)) fun l0 => withO (slice l0 l h') fun r => mk bx r S) Q := h
    cases ez : seqOf S (.box n) with
    | none =>
      rw [ez] at h
      exact False.elim h
    | some z =>
      obtain ⟨a, xs, ex, h1, r⟩ := lst_ok s rx (l := z) ez
      exact lists (pv := .box n) ez ex (SqL.of h1) r h
  | non => exact False.elim h
  | bl b => exact False.elim h
  | int i => exact False.elim h
  | fn f => exact False.elim h
  | ty t => exact False.elim h
  | xc c l => exact False.elim h
theorem sliceV_parts {bx : Bool} {pv l h' : PV} {Q : VK} (h : PostE Φ W m H σ (sliceV bx pv l h' S) Q) : (∃ lo, oint l = some lo) ∧ ∃ hi, oint h' = some hi := by
  have sl : ∀ {z : List PV} {r : List PV}, slice z l h' = some r → (∃ lo, oint l = some lo) ∧ ∃ hi, oint h' = some hi := fun {z r} e => by
    unfold slice at e
    cases e1 : oint l with
    | none =>
      rw [e1] at e
      cases e
    | some lo =>
      cases e2 : oint h' with
      | none =>
        rw [e1, e2] at e
        cases e
      | some hi => exact ⟨⟨lo, rfl⟩, hi, rfl⟩
  have lists : ∀ {pv : PV}, PostE Φ W m H σ (withO (seqOf S pv) fun l0 => withO (slice l0 l h') fun r => mk bx r S) Q → (∃ lo, oint l = some lo) ∧ ∃ hi, oint h' = some hi := fun {pv} h => by
    cases ez : seqOf S pv with
    | none =>
      rw [ez] at h
      exact False.elim h
    | some z =>
      rw [ez] at h
      have h : PostE Φ W m H σ (withO (slice z l h') fun r => mk bx r S) Q := h
      cases e : slice z l h' with
      | none =>
        rw [e] at h
        exact False.elim h
      | some r => exact sl e
  cases pv with
  | str z =>
    have h : PostE Φ W m H σ (withO (oint l) fun a => withO (oint h') fun b => .ok (.str (cutStr z a b)) S) Q := h
    cases e1 : oint l with
    | none =>
      rw [e1] at h
      exact False.elim h
    | some lo =>
      rw [e1] at h
      have h : PostE Φ W m H σ (withO (oint h') fun b => .ok (.str (cutStr z lo b)) S) Q := h
      cases e2 : oint h' with
      | none =>
        rw [e2] at h
        exact False.elim h
      | some hi => exact ⟨⟨lo, rfl⟩, hi, rfl⟩
  | tup z =>
    have h : PostE Φ W m H σ (withO (slice z l h') fun r => mkT r S) Q := h
    cases e : slice z l h' with
    | none =>
      rw [e] at h
      exact False.elim h
    | some r => exact sl e
  | lst z => exact lists (pv := .lst z) h
  | klst z => exact lists (pv := .klst z) h
  | box n => exact lists (pv := .box n) h
  | non => exact False.elim h
  | bl b => exact False.elim h
  | int i => exact False.elim h
  | fn f => exact False.elim h
  | ty t => exact False.elim h
  | xc c l => exact False.elim h
theorem pe_slcR {lo hi : Option Expr} {bx : Bool} (hK : X.K = Φ.K) (ha : PE X a (tR Φ W f)) (hl : PO X lo (tRO Φ W g)) (hh : PO X hi (tRO Φ W k)) (hg : ∀ ρ S p S', g ρ S = .ok p S' → ∃ o, oint p = some o) (hk : ∀ ρ S p S', k ρ S = .ok p S' → ∃ o, oint p = some o) :
    PE X (.Subscript a (.Slice lo hi none p2) pos) (tR Φ W fun ρ S => (f ρ S).bind fun v S1 => (g ρ S1).bind fun l S2 => (k ρ S2).bind fun h S3 => sliceV bx v l h S3) := by
  refine PE.of (pe_slice sl_all ha hl hh) fun σ H Q ⟨m, ρ, S, s, e, h⟩ => ?_
  rw [hK]
  refine chain s e h fun p S1 m1 H1 x e1 s1 E1 r1 h1 => ?_
  show tRO Φ W g σ H1 fun l H2 => tRO Φ W k σ H2 fun u H3 => ASl Φ.K x l u H3 Q
  refine ⟨m1, ρ, S1, s1, E1, ?_⟩
  cases hr : g ρ S1 with
  | no =>
    rw [hr] at h1
    exact h1
  | ex c S2 =>
    rw [hr] at h1
    exact h1
  | ok l S2 =>
    rw [hr] at h1
    obtain ⟨o, eo⟩ := hg ρ S1 l S2 hr
    refine ⟨o, eo, fun m2 H2 e2 s2 => ⟨m2, ρ, S2, s2, E1.ext e2, ?_⟩⟩
    have h2 : PostE Φ W m2 H2 σ ((k ρ S2).bind fun h S3 => sliceV bx p l h S3) Q := PostE.ext e2 h1
    cases hr2 : k ρ S2 with
    | no =>
      rw [hr2] at h2
      exact h2
    | ex c S3 =>
      rw [hr2] at h2
      exact h2
    | ok u S3 =>
      rw [hr2] at h2
      obtain ⟨o2, eo2⟩ := hk ρ S2 u S3 hr2
      exact ⟨o2, eo2, fun m3 H3 e3 s3 => sl_ok s3 ((r1.ext e2).ext e3) eo eo2 (PostE.ext e3 h2)⟩
end
end Rn
set_option maxHeartbeats 1000007
/-! The runner is right: built-ins. -/
namespace Rn
open L2 PySem PyProof.Rows PySem.Spec

section
variable {X : Cx} {Φ : Fm} {W : WX} {m m1 : Mp} {H H1 : Hp} {S : Sto} {ρ : Env} {σ : L2.St} {pos p2 : Pos}
theorem CallR.of {f : Value} {r r' : List V → Hp → VK → Prop} (h : CallR X f r) (k : ∀ xs H Q, r' xs H Q → r xs H Q) : CallR X f r' := fun pins s σ H xs us Q I v q => h pins s σ H xs us Q I v (k xs H Q q)
theorem withO_ok {α : Type} {o : Option α} {g : α → R PV} {Q : VK} (h : PostE Φ W m H σ (withO o g) Q) : ∃ a, o = some a ∧ PostE Φ W m H σ (g a) Q := by
  cases o with
  | none => exact False.elim h
  | some a => exact ⟨a, rfl, h⟩
theorem rel1 {v : PV} {xs : List V} (r : RelPs Φ m H [v] xs) : ∃ x, xs = [x] ∧ RelP Φ m H v x := by
  simp only [RelPs] at r
  obtain ⟨x, xr, e, r, e2⟩ := r
  subst e2
  exact ⟨x, e, r⟩
theorem rel2 {v w : PV} {xs : List V} (r : RelPs Φ m H [v, w] xs) : ∃ x y, xs = [x, y] ∧ RelP Φ m H v x ∧ RelP Φ m H w y := by
  simp only [RelPs] at r
  obtain ⟨x, xr, e, r, y, yr, e2, r2, e3⟩ := r
  subst e3
  subst e2
  exact ⟨x, y, e, r, r2⟩
def BltR (Φ : Fm) (W : WX) (b : Bl) (bx : Bool) : List V → Hp → VK → Prop := fun xs H Q => ∃ m S vs σ, RelS Φ m S H ∧ RelPs Φ m H vs xs ∧ PostE Φ W m H σ (blt b bx vs S) Q
/-- one argument -/
theorem blt1 {b : Bl} {bx : Bool} {vs : List PV} {Q : VK} (hb : ∀ v w S, blt b bx [v, w] S = .no) (h : PostE Φ W m H σ (blt b bx vs S) Q) : ∃ v, vs = [v] := by
  match vs, h with
  | [v], _ => exact ⟨v, rfl⟩
  | [], h => exact False.elim h
  | [v, w], h =>
    rw [hb] at h
    exact False.elim h
  | _ :: _ :: _ :: _, h => exact False.elim h
/-- two arguments -/
theorem blt2 {b : Bl} {bx : Bool} {vs : List PV} {Q : VK} (hb : ∀ v S, blt b bx [v] S = .no) (h : PostE Φ W m H σ (blt b bx vs S) Q) : ∃ v w, vs = [v, w] := by
  match vs, h with
  | [v], h =>
    rw [hb] at h
    exact False.elim h
  | [], h => exact False.elim h
  | [v, w], _ => exact ⟨v, w, rfl⟩
  | _ :: _ :: _ :: _, h => exact False.elim h
theorem fin_int {i : Int} {Q : VK} (s : RelS Φ m S H) (h : PostE Φ W m H σ (.ok (.int i) S) Q) : Q (.int i) H := fin h s (by simp only [RelP])
theorem fin_bl {i : Bool} {Q : VK} (s : RelS Φ m S H) (h : PostE Φ W m H σ (.ok (.bl i) S) Q) : Q (.bl i) H := fin h s (by simp only [RelP])

theorem b_len (hK : X.K = Φ.K) {bx : Bool} : CallR X (.builtin "len") (BltR Φ W .len bx) := CallR.of call_len fun xs H Q ⟨m, S, vs, σ, s, r, h⟩ => by
  obtain ⟨v, rfl⟩ := blt1 (fun _ _ _ => rfl) h
  obtain ⟨x, rfl, rx⟩ := rel1 r
  have lists : ∀ {v : PV}, RelP Φ m H v x → PostE Φ W m H σ (withO (seqOf S v) fun l => .ok (.int l.length) S) Q → ∃ x1 n, [x] = [x1] ∧ LenV X.K x1 H n ∧ Q (.int n) H := fun {v} r h => by
    obtain ⟨l, e, h⟩ := withO_ok h
    obtain ⟨a, ys, ex, hs, ry⟩ := seq_ok s r e
    subst ex
    refine ⟨_, ys.length, rfl, ?_, ?_⟩
    · rw [hK]
      rcases hs with hs | hs
      · exact .inl ⟨ys, hs, rfl⟩
      · exact .inr ⟨ys, hs, rfl⟩
    · rw [← ry.length]
      exact fin_int s h
  cases v with
  | str z =>
    simp only [RelP] at rx
    obtain ⟨rfl, hz⟩ := rx
    exact ⟨_, z.cps.size, rfl, ⟨size_lim hz, rfl⟩, fin_int s h⟩
  | non => exact lists rx h
  | bl b => exact lists rx h
  | int i => exact lists rx h
  | tup l => exact lists rx h
  | lst l => exact lists rx h
  | klst l => exact lists rx h
  | box n => exact lists rx h
  | fn f => exact lists rx h
  | ty t => exact lists rx h
  | xc c l => exact lists rx h
theorem b_abs {bx : Bool} : CallR X (.builtin "abs") (BltR Φ W .abs bx) := CallR.of call_abs fun xs H Q ⟨m, S, vs, σ, s, r, h⟩ => by
  obtain ⟨v, rfl⟩ := blt1 (fun _ _ _ => rfl) h
  obtain ⟨x, rfl, rx⟩ := rel1 r
  cases v with
  | int i =>
    simp only [RelP] at rx
    subst rx
    refine ⟨i, rfl, ?_⟩
    have h := fin_int s h
    rw [ilt_eq] at h
    by_cases hi : i < 0
    · simpa [hi] using h
    · simpa [hi] using h
  | _ => exact False.elim h
theorem b_int {bx : Bool} : CallR X (.type "int") (BltR Φ W .int bx) := CallR.of call_int1 fun xs H Q ⟨m, S, vs, σ, s, r, h⟩ => by
  obtain ⟨v, rfl⟩ := blt1 (fun _ _ _ => rfl) h
  obtain ⟨x, rfl, rx⟩ := rel1 r
  cases v with
  | int i =>
    simp only [RelP] at rx
    subst rx
    exact .inl ⟨i, rfl, fin_int s h⟩
  | bl b =>
    simp only [RelP] at rx
    subst rx
    exact .inr ⟨b, rfl, fin_int s h⟩
  | _ => exact False.elim h
theorem b_list (hK : X.K = Φ.K) {bx : Bool} : CallR X (.type "list") (BltR Φ W .list bx) := CallR.of call_list_of fun xs H Q ⟨m, S, vs, σ, s, r, h⟩ => by
  obtain ⟨v, rfl⟩ := blt1 (fun _ _ _ => rfl) h
  obtain ⟨x, rfl, rx⟩ := rel1 r
  obtain ⟨l, e, h⟩ := withO_ok h
  obtain ⟨a, ys, rfl, hs, ry⟩ := seq_ok s rx e
  exact ⟨a, ys, rfl, by rw [hK]; exact hs, fun p hp => (mk_ok s ry h hp).2⟩
theorem b_tuple (hK : X.K = Φ.K) {bx : Bool} : CallR X (.type "tuple") (BltR Φ W .tuple bx) := CallR.of call_tupleF fun xs H Q ⟨m, S, vs, σ, s, r, h⟩ => by
  obtain ⟨v, rfl⟩ := blt1 (fun _ _ _ => rfl) h
  obtain ⟨x, rfl, rx⟩ := rel1 r
  obtain ⟨l, e, h⟩ := withO_ok h
  have lists : ∀ {a ys}, SqL Φ.K H a ys → RelPs Φ m H l ys → x = .ref a → ∃ p ys, [x] = [V.ref p] ∧ ((SqL X.K H p ys ∧ NewT H ys Q) ∨ (SqT X.K H p ys ∧ Q (.ref p) H)) := fun {a ys} hs ry ex => by
    subst ex
    exact ⟨a, ys, rfl, .inl ⟨by rw [hK]; exact hs, mkT_ok s ry h⟩⟩
  cases v with
  | tup z =>
    simp only [RelP] at rx
    cases e
    obtain ⟨a, ys, rfl, h1, ry⟩ := rx
    exact ⟨a, ys, rfl, .inr ⟨by rw [hK]; exact h1.sq, mkT_old s h1 ry h⟩⟩
  | lst z =>
    simp only [RelP] at rx
    cases e
    obtain ⟨a, ys, ex, h1, ry⟩ := rx
    exact lists h1.sq ry ex
  | klst z =>
    simp only [RelP] at rx
    cases e
    obtain ⟨a, ys, ex, h1, ry⟩ := rx
    exact lists h1.sq ry ex
  | box n =>
    obtain ⟨a, ys, ex, h1, ry⟩ := lst_ok s rx (l := l) e
    exact lists (SqL.of h1) ry ex
  | _ => cases e

/-! ### numbers -/
theorem intsL_rel : ∀ {l : List PV} {ns : List Int} {xs : List V}, intsL l = some ns → RelPs Φ m H l xs → xs = ns.map V.int
  | [], ns, xs, e, r => by
    simp only [RelPs] at r
    subst r
    cases e
    rfl
  | p :: l, ns, xs, e, r => by
    simp only [RelPs] at r
    obtain ⟨v, vr, rfl, r1, r2⟩ := r
    cases p with
    | int i =>
      have e : (match intsL l with | some l => some (i :: l) | none => none) = some ns := e
      cases e1 : intsL l with
      | none =>
        rw [e1] at e
        cases e
      | some ms =>
        rw [e1] at e
        cases e
        simp only [RelP] at r1
        rw [r1, intsL_rel e1 r2]
        rfl
    | _ => cases e
theorem bools_rel : ∀ {l : List PV} {ns : List Bool} {xs : List V}, bools l = some ns → RelPs Φ m H l xs → xs = ns.map V.bl
  | [], ns, xs, e, r => by
    simp only [RelPs] at r
    subst r
    cases e
    rfl
  | p :: l, ns, xs, e, r => by
    simp only [RelPs] at r
    obtain ⟨v, vr, rfl, r1, r2⟩ := r
    cases p with
    | bl i =>
      have e : (match bools l with | some l => some (i :: l) | none => none) = some ns := e
      cases e1 : bools l with
      | none =>
        rw [e1] at e
        cases e
      | some ms =>
        rw [e1] at e
        cases e
        simp only [RelP] at r1
        rw [r1, bools_rel e1 r2]
        rfl
    | _ => cases e
theorem isum_eq : ∀ l : List Int, isum l = l.sum
  | [] => rfl
  | x :: l => by rw [List.sum_cons, ← isum_eq l]; rfl
theorem orAll_eq : ∀ l : List Bool, orAll l = l.any id
  | [] => rfl
  | true :: l => rfl
  | false :: l => by
    show orAll l = _
    rw [orAll_eq l]
    rfl
theorem andAll_eq : ∀ l : List Bool, andAll l = l.all id
  | [] => rfl
  | false :: l => rfl
  | true :: l => by
    show andAll l = _
    rw [andAll_eq l]
    rfl
theorem imaxFrom_ok : ∀ (l : List Int) (x : Int), (imaxFrom x l = x ∨ imaxFrom x l ∈ l) ∧ x ≤ imaxFrom x l ∧ ∀ y, y ∈ l → y ≤ imaxFrom x l
  | [], x => ⟨.inl rfl, Int.le_refl _, fun y h => by cases h⟩
  | z :: l, x => by
    have key : imaxFrom x (z :: l) = imaxFrom (if ilt x z then z else x) l := rfl
    obtain ⟨h1, h2, h3⟩ := imaxFrom_ok l (if ilt x z then z else x)
    rw [key]
    rw [ilt_eq] at h1 h2 h3 ⊢
    by_cases hz : x < z
    · simp only [hz, decide_true, if_true] at h1 h2 h3 ⊢
      refine ⟨.inr ?_, by omega, fun y hy => ?_⟩
      · rcases h1 with h1 | h1
        · rw [h1]; exact List.mem_cons_self ..
        · exact List.mem_cons_of_mem _ h1
      · have zq59 := List.mem_cons.mp hy
        rcases zq59 with rfl | hy
        · exact h2
        · exact h3 y hy
    · simp only [hz, decide_false, if_false, Bool.false_eq_true] at h1 h2 h3 ⊢
      refine ⟨?_, h2, fun y hy => ?_⟩
      · rcases h1 with h1 | h1
        · exact .inl h1
        · exact .inr (List.mem_cons_of_mem _ h1)
      · have zq60 := List.mem_cons.mp hy
        rcases zq60 with rfl | hy
        · omega
        · exact h3 y hy
theorem iminFrom_ok : ∀ (l : List Int) (x : Int), (iminFrom x l = x ∨ iminFrom x l ∈ l) ∧ iminFrom x l ≤ x ∧ ∀ y, y ∈ l → iminFrom x l ≤ y
  | [], x => ⟨.inl rfl, Int.le_refl _, fun y h => by cases h⟩
  | z :: l, x => by
    have key : iminFrom x (z :: l) = iminFrom (if ilt z x then z else x) l := rfl
    obtain ⟨h1, h2, h3⟩ := iminFrom_ok l (if ilt z x then z else x)
    rw [key]
    rw [ilt_eq] at h1 h2 h3 ⊢
    by_cases hz : z < x
    · simp only [hz, decide_true, if_true] at h1 h2 h3 ⊢
      refine ⟨.inr ?_, by omega, fun y hy => ?_⟩
      · rcases h1 with h1 | h1
        · rw [h1]; exact List.mem_cons_self ..
        · exact List.mem_cons_of_mem _ h1
      · have zq61 := List.mem_cons.mp hy
        rcases zq61 with rfl | hy
        · exact h2
        · exact h3 y hy
    · simp only [hz, decide_false, if_false, Bool.false_eq_true] at h1 h2 h3 ⊢
      refine ⟨?_, h2, fun y hy => ?_⟩
      · rcases h1 with h1 | h1
        · exact .inl h1
        · exact .inr (List.mem_cons_of_mem _ h1)
      · have zq62 := List.mem_cons.mp hy
        rcases zq62 with rfl | hy
        · omega
        · exact h3 y hy
theorem imax_uniq {l : List Int} {i k : Int} (h : imax l = some i) (h1 : k ∈ l) (h2 : ∀ y, y ∈ l → y ≤ k) : k = i := by
  cases l with
  | nil => cases h
  | cons x l =>
    have h : some (imaxFrom x l) = some i := h
    cases h
    obtain ⟨a, b, c⟩ := imaxFrom_ok l x
    have up : k ≤ imaxFrom x l := by
      rcases List.mem_cons.mp h1 with rfl | h1
      · exact b
      · exact c k h1
    have dn : imaxFrom x l ≤ k := by
      rcases a with a | a
      · rw [a]; exact h2 x (List.mem_cons_self ..)
      · exact h2 _ (List.mem_cons_of_mem _ a)
    omega
theorem imin_uniq {l : List Int} {i k : Int} (h : imin l = some i) (h1 : k ∈ l) (h2 : ∀ y, y ∈ l → k ≤ y) : k = i := by
  cases l with
  | nil => cases h
  | cons x l =>
    have h : some (iminFrom x l) = some i := h
    cases h
    obtain ⟨a, b, c⟩ := iminFrom_ok l x
    have up : iminFrom x l ≤ k := by
      rcases List.mem_cons.mp h1 with rfl | h1
      · exact b
      · exact c k h1
    have dn : k ≤ iminFrom x l := by
      rcases a with a | a
      · rw [a]; exact h2 x (List.mem_cons_self ..)
      · exact h2 _ (List.mem_cons_of_mem _ a)
    omega
theorem imax_pos {l : List Int} {i : Int} (h : imax l = some i) : 0 < l.length := by
  cases l with
  | nil => cases h
  | cons x l => exact Nat.succ_pos _
theorem imin_pos {l : List Int} {i : Int} (h : imin l = some i) : 0 < l.length := by
  cases l with
  | nil => cases h
  | cons x l => exact Nat.succ_pos _
end

/-! ### sum, max, min of a tuple of numbers: by the library's walks over data -/
theorem ints_read {h : Heap} : ∀ {ns : List Int} {us : List Value}, Vals (ns.map V.int) us → ∃ as, ReadsAll h us (ns.map PyData.int) as
  | [], _, .nil => ⟨_, .nil⟩
  | _ :: _, _, .cons r t => by
    obtain ⟨_, rfl⟩ := r
    obtain ⟨as, q⟩ := ints_read t
    exact ⟨_, .cons (.int _ _) q⟩
theorem ints_flat : ∀ ns : List Int, PyData.depthAll (ns.map PyData.int) = 0
  | [] => rfl
  | n :: ns => by
    show Nat.max 0 (PyData.depthAll (ns.map PyData.int)) = 0
    rw [ints_flat ns]
    rfl
theorem ints_alike (ns : List Int) : PySem.W.AlikeAll (ns.map PyData.int) := by
  constructor
  · intro x hx y hy
    have zq63 := List.mem_map.mp hx
    obtain ⟨a, _, rfl⟩ := zq63
    have zq64 := List.mem_map.mp hy
    obtain ⟨b, _, rfl⟩ := zq64
    rfl
  · intro x hx
    have zq65 := List.mem_map.mp hx
    obtain ⟨a, _, rfl⟩ := zq65
    exact fun z => nomatch z
theorem fold_max : ∀ (r : List Int) (n : Int), r.foldl max n ∈ n :: r ∧ ∀ y, y ∈ n :: r → y ≤ r.foldl max n
  | [], n => ⟨List.mem_singleton.mpr rfl, fun y h => Int.le_of_eq (List.mem_singleton.mp h)⟩
  | k :: r, n => by
    obtain ⟨h1, h2⟩ := fold_max r (max n k)
    have top := h2 (max n k) (List.mem_cons_self ..)
    refine ⟨?_, fun y h => ?_⟩
    · rcases List.mem_cons.mp h1 with e | e
      · rw [List.foldl_cons, e]
        rcases Int.le_total n k with l | l
        · rw [Int.max_eq_right l]
          exact List.mem_cons_of_mem _ (List.mem_cons_self ..)
        · rw [Int.max_eq_left l]
          exact List.mem_cons_self ..
      · exact List.mem_cons_of_mem _ (List.mem_cons_of_mem _ e)
    · rw [List.foldl_cons]
      have zq66 := List.mem_cons.mp h
      rcases zq66 with e | h
      · rw [e]
        exact Int.le_trans (Int.le_max_left ..) top
      · have zq67 := List.mem_cons.mp h
        rcases zq67 with e | h
        · rw [e]
          exact Int.le_trans (Int.le_max_right ..) top
        · exact h2 y (List.mem_cons_of_mem _ h)
theorem fold_min : ∀ (r : List Int) (n : Int), r.foldl min n ∈ n :: r ∧ ∀ y, y ∈ n :: r → r.foldl min n ≤ y
  | [], n => ⟨List.mem_singleton.mpr rfl, fun y h => Int.le_of_eq (List.mem_singleton.mp h).symm⟩
  | k :: r, n => by
    obtain ⟨h1, h2⟩ := fold_min r (min n k)
    have top := h2 (min n k) (List.mem_cons_self ..)
    refine ⟨?_, fun y h => ?_⟩
    · rcases List.mem_cons.mp h1 with e | e
      · rw [List.foldl_cons, e]
        rcases Int.le_total n k with l | l
        · rw [Int.min_eq_left l]
          exact List.mem_cons_self ..
        · rw [Int.min_eq_right l]
          exact List.mem_cons_of_mem _ (List.mem_cons_self ..)
      · exact List.mem_cons_of_mem _ (List.mem_cons_of_mem _ e)
    · rw [List.foldl_cons]
      have zq68 := List.mem_cons.mp h
      rcases zq68 with e | h
      · rw [e]
        exact Int.le_trans top (Int.min_le_left ..)
      · have zq69 := List.mem_cons.mp h
        rcases zq69 with e | h
        · rw [e]
          exact Int.le_trans top (Int.min_le_right ..)
        · exact h2 y (List.mem_cons_of_mem _ h)
section
variable {X : Cx} {Φ : Fm} {W : WX} {m m1 : Mp} {H H1 : Hp} {S : Sto} {ρ : Env} {σ : L2.St} {pos p2 : Pos}
/-- also of tuples -/
def rSumT (K : PySem.W.Frag) : List V → Hp → VK → Prop := fun vs H Q => ∃ (a : Addr) (ns : List Int), vs = [V.ref a] ∧ SqT K H a (ns.map V.int) ∧ Q (.int ns.sum) H
def rMaxT (K : PySem.W.Frag) : List V → Hp → VK → Prop := fun vs H Q => ∃ (a : Addr) (ns : List Int), vs = [V.ref a] ∧ SqT K H a (ns.map V.int) ∧ 0 < ns.length ∧ ∀ m, m ∈ ns → (∀ y, y ∈ ns → y ≤ m) → Q (.int m) H
def rMinT (K : PySem.W.Frag) : List V → Hp → VK → Prop := fun vs H Q => ∃ (a : Addr) (ns : List Int), vs = [V.ref a] ∧ SqT K H a (ns.map V.int) ∧ 0 < ns.length ∧ ∀ m, m ∈ ns → (∀ y, y ∈ ns → m ≤ y) → Q (.int m) H
theorem isTuple_of {h : Heap} {a : Addr} {its : Array Value} (t : IsTup h a its) : h.IsTuple a its := t
theorem cr_sumT (hc : X.calm = true) : CallR X (.builtin "sum") (rSumT X.K) := fun pins s σ H vs us Q I r ⟨a, ns, e, hs, q⟩ => by
  subst e
  obtain ⟨its, rv, hl, _⟩ := I.tuple hs
  obtain ⟨xs, ex⟩ := rv.ints.allInts.items
  have told : xs.toList.map Prod.fst = ns := (nums_intItems xs).symm.trans ((congrArg (fun z => numsOf z.toList) ex).symm.trans rv.ints.numsOf)
  rw [Vals.ref1 r]
  refine PySem.W.ktm_sumG (I.ok.hd hc) (ex ▸ isTuple_of hl) fun h' tk t' hk => ⟨.int ns.sum, H, I.kept hk, ⟨t', ?_⟩, q⟩
  rw [preSum_eq, List.take_of_length_le (by simp), told]
theorem cr_maxT (hc : X.calm = true) (hu : X.A.units + 200 < cLine) : CallR X (.builtin "max") (rMaxT X.K) := fun pins s σ H vs us Q I r ⟨a, ns, e, hs, some_, q⟩ => by
  subst e
  obtain ⟨its, rv, hl, _⟩ := I.tuple hs
  rw [Vals.ref1 r]
  match ns, some_, rv, q with
  | n :: r, _, rv, q =>
    obtain ⟨as, rd⟩ := ints_read (h := s.heap) rv
    have flat := ints_flat (n :: r)
    refine PySem.W.max_tuple_data (x := .int n) (xs := r.map .int) (I.ok.hd hc) (isTuple_of hl) rd (ints_alike (n :: r)) (by rw [show PyData.depthAll (PyData.int n :: r.map PyData.int) = 0 from flat]; omega) fun i v h' tk bs _ rd' hk => ?_
    rw [PySem.W.maxD_ints] at rd'
    obtain ⟨t, ev, _⟩ := reads_int_inv rd'
    exact ⟨.int (r.foldl max n), H, I.kept hk, ⟨t, ev⟩, q _ (fold_max r n).1 (fold_max r n).2⟩
theorem cr_minT (hc : X.calm = true) (hu : X.A.units + 200 < cLine) : CallR X (.builtin "min") (rMinT X.K) := fun pins s σ H vs us Q I r ⟨a, ns, e, hs, some_, q⟩ => by
  subst e
  obtain ⟨its, rv, hl, _⟩ := I.tuple hs
  rw [Vals.ref1 r]
  match ns, some_, rv, q with
  | n :: r, _, rv, q =>
    obtain ⟨as, rd⟩ := ints_read (h := s.heap) rv
    have flat := ints_flat (n :: r)
    refine PySem.W.min_tuple_data (x := .int n) (xs := r.map .int) (I.ok.hd hc) (isTuple_of hl) rd (ints_alike (n :: r)) (by rw [show PyData.depthAll (PyData.int n :: r.map PyData.int) = 0 from flat]; omega) fun i v h' tk bs _ rd' hk => ?_
    rw [PySem.W.minD_ints] at rd'
    obtain ⟨t, ev, _⟩ := reads_int_inv rd'
    exact ⟨.int (r.foldl min n), H, I.kept hk, ⟨t, ev⟩, q _ (fold_min r n).1 (fold_min r n).2⟩

/-- numbers of a list, of a tuple -/
theorem ints_of {v : PV} {x : V} {l : List PV} {ns : List Int} (s : RelS Φ m S H) (r : RelP Φ m H v x) (e : seqOf S v = some l) (en : intsL l = some ns) : ∃ a, x = .ref a ∧ (SqL Φ.K H a (ns.map V.int) ∨ SqT Φ.K H a (ns.map V.int)) := by
  obtain ⟨a, ys, ex, hs, ry⟩ := seq_ok s r e
  have e2 := intsL_rel en ry
  subst e2
  exact ⟨a, ex, hs⟩
theorem b_sum (hK : X.K = Φ.K) (hc : X.calm = true) {bx : Bool} : CallR X (.builtin "sum") (BltR Φ W .sum bx) := CallR.of (CallR.or (cr_sum hc) (cr_sumT hc)) fun xs H Q ⟨m, S, vs, σ, s, r, h⟩ => by
  obtain ⟨v, rfl⟩ := blt1 (fun _ _ _ => rfl) h
  obtain ⟨x, rfl, rx⟩ := rel1 r
  obtain ⟨l, e, h⟩ := withO_ok h
  obtain ⟨ns, en, h⟩ := withO_ok h
  obtain ⟨a, rfl, hs⟩ := ints_of s rx e en
  rw [isum_eq] at h
  rw [hK]
  rcases hs with hs | hs
  · exact .inl ⟨a, ns, rfl, hs, fin_int s h⟩
  · exact .inr ⟨a, ns, rfl, hs, fin_int s h⟩
theorem b_max (hK : X.K = Φ.K) (hc : X.calm = true) (hu : X.A.units + 200 < cLine) {bx : Bool} : CallR X (.builtin "max") (BltR Φ W .max bx) := CallR.of (CallR.or (cr_max hc) (cr_maxT hc hu)) fun xs H Q ⟨m, S, vs, σ, s, r, h⟩ => by
  obtain ⟨v, rfl⟩ := blt1 (fun _ _ _ => rfl) h
  obtain ⟨x, rfl, rx⟩ := rel1 r
  obtain ⟨l, e, h⟩ := withO_ok h
  obtain ⟨ns, en, h⟩ := withO_ok h
  obtain ⟨i, ei, h⟩ := withO_ok h
  obtain ⟨a, rfl, hs⟩ := ints_of s rx e en
  rw [hK]
  rcases hs with hs | hs
  · exact .inl ⟨a, ns, rfl, hs, imax_pos ei, fun k h1 h2 => by rw [imax_uniq ei h1 h2]; exact fin_int s h⟩
  · exact .inr ⟨a, ns, rfl, hs, imax_pos ei, fun k h1 h2 => by rw [imax_uniq ei h1 h2]; exact fin_int s h⟩
theorem b_min (hK : X.K = Φ.K) (hc : X.calm = true) (hu : X.A.units + 200 < cLine) {bx : Bool} : CallR X (.builtin "min") (BltR Φ W .min bx) := CallR.of (CallR.or (cr_min hc) (cr_minT hc hu)) fun xs H Q ⟨m, S, vs, σ, s, r, h⟩ => by
  obtain ⟨v, rfl⟩ := blt1 (fun _ _ _ => rfl) h
  obtain ⟨x, rfl, rx⟩ := rel1 r
  obtain ⟨l, e, h⟩ := withO_ok h
  obtain ⟨ns, en, h⟩ := withO_ok h
  obtain ⟨i, ei, h⟩ := withO_ok h
  obtain ⟨a, rfl, hs⟩ := ints_of s rx e en
  rw [hK]
  rcases hs with hs | hs
  · exact .inl ⟨a, ns, rfl, hs, imin_pos ei, fun k h1 h2 => by rw [imin_uniq ei h1 h2]; exact fin_int s h⟩
  · exact .inr ⟨a, ns, rfl, hs, imin_pos ei, fun k h1 h2 => by rw [imin_uniq ei h1 h2]; exact fin_int s h⟩
theorem bools_of {v : PV} {x : V} {l : List PV} {ns : List Bool} (s : RelS Φ m S H) (r : RelP Φ m H v x) (e : lstOf S v = some l) (en : bools l = some ns) : ∃ a, x = .ref a ∧ SqL Φ.K H a (ns.map V.bl) := by
  obtain ⟨a, ys, ex, hs, ry⟩ := lst_ok s r e
  have e2 := bools_rel en ry
  subst e2
  exact ⟨a, ex, SqL.of hs⟩
theorem b_any (hK : X.K = Φ.K) (hc : X.calm = true) {bx : Bool} : CallR X (.builtin "any") (BltR Φ W .any bx) := CallR.of (cr_any hc) fun xs H Q ⟨m, S, vs, σ, s, r, h⟩ => by
  obtain ⟨v, rfl⟩ := blt1 (fun _ _ _ => rfl) h
  obtain ⟨x, rfl, rx⟩ := rel1 r
  obtain ⟨l, e, h⟩ := withO_ok h
  obtain ⟨ns, en, h⟩ := withO_ok h
  obtain ⟨a, rfl, hs⟩ := bools_of s rx e en
  rw [orAll_eq] at h
  exact ⟨a, ns, rfl, by rw [hK]; exact hs, fin_bl s h⟩
theorem b_all (hK : X.K = Φ.K) (hc : X.calm = true) {bx : Bool} : CallR X (.builtin "all") (BltR Φ W .all bx) := CallR.of (cr_all hc) fun xs H Q ⟨m, S, vs, σ, s, r, h⟩ => by
  obtain ⟨v, rfl⟩ := blt1 (fun _ _ _ => rfl) h
  obtain ⟨x, rfl, rx⟩ := rel1 r
  obtain ⟨l, e, h⟩ := withO_ok h
  obtain ⟨ns, en, h⟩ := withO_ok h
  obtain ⟨a, rfl, hs⟩ := bools_of s rx e en
  rw [andAll_eq] at h
  exact ⟨a, ns, rfl, by rw [hK]; exact hs, fin_bl s h⟩
theorem b_max2 (hc : X.calm = true) {bx : Bool} : CallR X (.builtin "max") (BltR Φ W .max2 bx) := CallR.of (call_max2 hc) fun xs H Q ⟨m, S, vs, σ, s, r, h⟩ => by
  obtain ⟨v, w, rfl⟩ := blt2 (fun _ _ => rfl) h
  obtain ⟨x, y, rfl, rx, ry⟩ := rel2 r
  cases v with
  | int i =>
    cases w with
    | int j =>
      simp only [RelP] at rx ry
      subst rx ry
      refine ⟨i, j, rfl, ?_⟩
      have h := fin_int s h
      rw [ilt_eq] at h
      by_cases hi : i < j
      · simpa [hi] using h
      · simpa [hi] using h
    | _ => exact False.elim h
  | _ => exact False.elim h
theorem b_min2 (hc : X.calm = true) {bx : Bool} : CallR X (.builtin "min") (BltR Φ W .min2 bx) := CallR.of (call_min2 hc) fun xs H Q ⟨m, S, vs, σ, s, r, h⟩ => by
  obtain ⟨v, w, rfl⟩ := blt2 (fun _ _ => rfl) h
  obtain ⟨x, y, rfl, rx, ry⟩ := rel2 r
  cases v with
  | int i =>
    cases w with
    | int j =>
      simp only [RelP] at rx ry
      subst rx ry
      refine ⟨i, j, rfl, ?_⟩
      have h := fin_int s h
      rw [ilt_eq] at h
      by_cases hi : j < i
      · simpa [hi] using h
      · simpa [hi] using h
    | _ => exact False.elim h
  | _ => exact False.elim h
end
end Rn
set_option maxHeartbeats 1000007
/-! The runner is right: sorted, isinstance, index, count. -/
namespace Rn
open L2 PySem PyProof.Rows PySem.Spec

/-! ### sorted, of numbers -/
theorem insN_perm (x : Int) : ∀ l, (insN x l).Perm (x :: l)
  | [] => .refl _
  | y :: ys => by
    unfold insN
    split
    · exact ((insN_perm x ys).cons y).trans (List.Perm.swap ..)
    · exact .refl _
theorem sortI_perm : ∀ l, (sortI l).Perm l
  | [] => .refl _
  | x :: xs => (insN_perm x _).trans ((sortI_perm xs).cons x)
theorem insN_sorted (x : Int) : ∀ l, l.Pairwise (· ≤ ·) → (insN x l).Pairwise (· ≤ ·)
  | [], _ => List.pairwise_singleton _ _
  | y :: ys, h => by
    unfold insN
    have zq73 := List.pairwise_cons.mp h
    obtain ⟨h1, h2⟩ := zq73
    rw [ilt_eq]
    by_cases hy : y < x
    · simp only [hy, decide_true, if_true]
      refine List.pairwise_cons.mpr ⟨fun z hz => ?_, insN_sorted x ys h2⟩
      rcases List.mem_cons.mp ((insN_perm x ys).mem_iff.mp hz) with rfl | hz
      · omega
      · exact h1 z hz
    · simp only [hy, decide_false, if_false, Bool.false_eq_true]
      refine List.pairwise_cons.mpr ⟨fun z hz => ?_, h⟩
      have zq74 := List.mem_cons.mp hz
      rcases zq74 with rfl | hz
      · omega
      · have := h1 z hz
        omega
theorem sortI_sorted : ∀ l, (sortI l).Pairwise (· ≤ ·)
  | [] => List.Pairwise.nil
  | x :: xs => insN_sorted x _ (sortI_sorted xs)
theorem sortI_uniq {l ns : List Int} (h : ns.Perm l) (hs : ns.Pairwise (· ≤ ·)) : ns = sortI l :=
  List.Perm.eq_of_pairwise (le := (· ≤ ·)) (fun a b _ _ h1 h2 => Int.le_antisymm h1 h2) hs (sortI_sorted l) (h.trans (sortI_perm l).symm)

section
variable {X : Cx} {Φ : Fm} {W : WX} {m m1 : Mp} {H H1 : Hp} {S : Sto} {ρ : Env} {σ : L2.St} {pos p2 apos cpos : Pos}
theorem rel_ints : ∀ l : List Int, RelPs Φ m H (l.map PV.int) (l.map V.int)
  | [] => by simp only [List.map_nil, RelPs]
  | x :: l => by
    rw [List.map_cons]
    rw [List.map_cons]
    exact RelPs.cons (by simp only [RelP]) (rel_ints l)
theorem b_sortedI (hK : X.K = Φ.K) {bx : Bool} : CallR X (.builtin "sorted") (fun xs H Q => ∃ m S v σ, RelS Φ m S H ∧ RelPs Φ m H [v] xs ∧ PostE Φ W m H σ (sortO bx v S) Q) := CallR.of cr_sorted fun xs H Q ⟨m, S, v, σ, s, r, h⟩ => by
  obtain ⟨x, rfl, rx⟩ := rel1 r
  have key : ∀ {v : PV} {l : List PV} {a : Addr} {ys : List V}, x = .ref a → SqL Φ.K H a ys → RelPs Φ m H l ys → PostE Φ W m H σ (match intsL l with
        | some ns => if Nat.blt ns.length 64 then mk bx ((sortI ns).map .int) S else .no
        | none => .no) Q → ∃ (a : Addr) (ns : List Int), [x] = [V.ref a] ∧ SqL X.K H a (ns.map V.int) ∧ ns.length < 64 ∧
        ∀ (ns' : List Int) (p : Addr), ns'.Perm ns → ns'.Pairwise (· ≤ ·) → H p = none → Q (.ref p) (upd H p (.lst (ns'.map V.int))) := fun {v l a ys} ex hs ry h => by
    subst ex
    cases en : intsL l with
    | none =>
      rw [en] at h
      exact False.elim h
    | some ns =>
      rw [en] at h
      have e2 := intsL_rel en ry
      subst e2
      have h : PostE Φ W m H σ (if Nat.blt ns.length 64 then mk bx ((sortI ns).map .int) S else .no) Q := h
      cases hz : Nat.blt ns.length 64 with
      | false =>
        rw [hz] at h
        exact False.elim h
      | true =>
        rw [hz] at h
        refine ⟨a, ns, rfl, by rw [hK]; exact hs, blt_true hz, fun ns' p hp hq hn => ?_⟩
        have e3 := sortI_uniq hp hq
        subst e3
        exact (mk_ok s (rel_ints _) h hn).2
  cases v with
  | lst z =>
    simp only [RelP] at rx
    obtain ⟨a, ys, ex, h1, ry⟩ := rx
    exact key (v := .lst z) ex h1.sq ry h
  | klst z =>
    simp only [RelP] at rx
    obtain ⟨a, ys, ex, h1, ry⟩ := rx
    exact key (v := .klst z) ex h1.sq ry h
  | box n =>
    have h : PostE Φ W m H σ (withO (seqOf S (.box n)) fun l => match intsL l with
        | some ns => if Nat.blt ns.length 64 then mk bx ((sortI ns).map .int) S else .no
        | none => .no) Q := h
    obtain ⟨l, e, h⟩ := withO_ok h
    obtain ⟨a, ys, ex, h1, ry⟩ := lst_ok s rx (l := l) e
    exact key (v := .box n) ex (SqL.of h1) ry h
  | str z =>
    exact False.elim h
  | non =>
    exact False.elim h
  | bl b =>
    exact False.elim h
  | int i =>
    exact False.elim h
  | fn f =>
    exact False.elim h
  | ty t =>
    exact False.elim h
  | xc c l =>
    exact False.elim h
  | tup z => exact False.elim h

/-! ### isinstance -/
def kdTy : Kd → String
  | .n => "NoneType"
  | .b => "bool"
  | .i => "int"
  | .s => "str"
  | .l => "list"
  | .t => "tuple"
theorem kitB_n (t : Kd) (ht : t ≠ .n) : kitB "NoneType" (kdTy t) = some (isK .n t) := by cases t <;> first | exact absurd rfl ht | decide +kernel
theorem kitB_b (t : Kd) (ht : t ≠ .n) : kitB "bool" (kdTy t) = some (isK .b t) := by cases t <;> first | exact absurd rfl ht | decide +kernel
theorem kitB_i (t : Kd) (ht : t ≠ .n) : kitB "int" (kdTy t) = some (isK .i t) := by cases t <;> first | exact absurd rfl ht | decide +kernel
theorem kitB_s (t : Kd) (ht : t ≠ .n) : kitB "str" (kdTy t) = some (isK .s t) := by cases t <;> first | exact absurd rfl ht | decide +kernel
theorem kitB_l (t : Kd) (ht : t ≠ .n) : kitB "list" (kdTy t) = some (isK .l t) := by cases t <;> first | exact absurd rfl ht | decide +kernel
theorem kitB_t (t : Kd) (ht : t ≠ .n) : kitB "tuple" (kdTy t) = some (isK .t t) := by cases t <;> first | exact absurd rfl ht | decide +kernel
theorem kitB_k (k t : Kd) (ht : t ≠ .n) : kitB (kdTy k) (kdTy t) = some (isK k t) := by
  cases k with
  | n => exact kitB_n t ht
  | b => exact kitB_b t ht
  | i => exact kitB_i t ht
  | s => exact kitB_s t ht
  | l => exact kitB_l t ht
  | t => exact kitB_t t ht
theorem tyOf_ok {t : String} {k : Kd} (h : tyOf t = some k) : t = kdTy k ∧ k ≠ .n := by
  unfold tyOf at h
  split at h
  · rename_i e; cases h; exact ⟨eq_of_beq e, by decide⟩
  split at h
  · rename_i e; cases h; exact ⟨eq_of_beq e, by decide⟩
  split at h
  · rename_i e; cases h; exact ⟨eq_of_beq e, by decide⟩
  split at h
  · rename_i e; cases h; exact ⟨eq_of_beq e, by decide⟩
  split at h
  · rename_i e; cases h; exact ⟨eq_of_beq e, by decide⟩
  cases h
theorem tyX_of (s : RelS Φ m S H) {v : PV} {x : V} {k : Kd} (r : RelP Φ m H v x) (h : kindOf (der S v) = some k) : TyX Φ.K H x (.type (kdTy k)) := by
  cases v with
  | non => cases h; simp only [RelP] at r; subst r; exact .base .non
  | bl b => cases h; simp only [RelP] at r; subst r; exact .base (.bl b)
  | int i => cases h; simp only [RelP] at r; subst r; exact .base (.int i)
  | str z => cases h; simp only [RelP] at r; obtain ⟨rfl, _⟩ := r; exact .base (.str z)
  | tup l =>
    cases h
    simp only [RelP] at r
    obtain ⟨a, xs, rfl, h1, r⟩ := r
    rcases h1 with ⟨o, its, n, h1, h2, _⟩ | ⟨⟨o, h1, _⟩, _⟩
    · exact .kTuple h1 h2
    · exact .fTuple h1
  | lst l =>
    cases h
    simp only [RelP] at r
    obtain ⟨a, xs, rfl, h1, r⟩ := r
    exact .base (.lst h1.1)
  | klst l =>
    cases h
    simp only [RelP] at r
    obtain ⟨a, xs, rfl, h1, r⟩ := r
    rcases h1 with ⟨o, its, n, h1, h2, _⟩ | ⟨h1 | ⟨o, h1⟩, _⟩
    · exact .kList h1 h2
    · exact .base (.lst h1)
    · exact .base (.frz h1)
  | box n =>
    unfold der at h
    simp only at h
    cases e : getB S n with
    | none =>
      rw [e] at h
      cases h
    | some l =>
      rw [e] at h
      cases h
      obtain ⟨a, xs, rfl, h1, _⟩ := lst_ok s r (l := l) e
      exact .base (.lst h1)
  | fn f => cases h
  | ty t => cases h
  | xc c l => cases h
/-- a tuple whose object is known, of classes -/
def rIsiF (K : PySem.W.Frag) : List V → Hp → VK → Prop := fun xs H Q => ∃ (x : V) (tp : Addr) (cs : List V) (t : Value) (us : List Value) (b : Bool), xs = [x, .ref tp] ∧ SqT K H tp cs ∧ Paired ClsV cs us ∧ TyX K H x t ∧ PySem.W.kitAny K t us = some b ∧ Q (.bl b) H
theorem call_isiF : CallR X (.builtin "isinstance") (rIsiF X.K) := fun pins s σ H xs us Q I vals ⟨x, tp, cs, t, ws, b, e, sq, cls, ty, ans, q⟩ => by
  subst e
  obtain ⟨u, v, rfl, rx, rt⟩ := vals2 vals
  obtain rfl : v = .ref tp := rt
  obtain ⟨P, told, holds, no⟩ := kit_of I rx ty
  obtain ⟨its, rv, ⟨⟨_, _, _, _⟩, at_, rfl, n, rfl⟩, _⟩ := I.tuple sq
  obtain rfl := ClsV.all cls rv
  exact PySem.W.kia_tup told I.kIn holds at_ ans no fun _ => ⟨.bl b, H, I.tok _, rfl, q⟩
theorem isKs_ok {k : Kd} : ∀ {ts : List PV} {b : Bool} {cs : List V}, isKs k ts = some b → RelPs Φ m H ts cs → ∃ us, Paired ClsV cs us ∧ PySem.W.kitAny Φ.K (.type (kdTy k)) us = some b
  | [], b, cs, h, r => by
    simp only [RelPs] at r
    subst r
    cases h
    exact ⟨[], .nil, rfl⟩
  | p :: ts, b, cs, h, r => by
    simp only [RelPs] at r
    obtain ⟨v, vr, rfl, r1, r2⟩ := r
    cases p with
    | ty t =>
      simp only [RelP] at r1
      subst r1
      have h' : (match tyOf t with | some t => (match isKs k ts with | some b => some (isK k t || b) | none => none) | none => none) = some b := h
      cases et : tyOf t with
      | none =>
        rw [et] at h'
        cases h'
      | some t' =>
        rw [et] at h'
        have h2 : (match isKs k ts with | some b => some (isK k t' || b) | none => none) = some b := h'
        obtain ⟨e1, e2⟩ := tyOf_ok et
        subst e1
        have kb := kit_ty (K := Φ.K) (kitB_k k t' e2)
        cases er : isKs k ts with
        | none =>
          rw [er] at h2
          cases h2
        | some c =>
          rw [er] at h2
          cases h2
          obtain ⟨us, q1, q2⟩ := isKs_ok er r2
          refine ⟨_ :: us, .cons (.ty _) q1, kitAny_cons kb (fun z => ?_) fun z => ?_⟩
          · rw [z]; exact q2
          · rw [z]; rfl
    | _ => cases h
theorem b_isi (hK : X.K = Φ.K) {bx : Bool} : CallR X (.builtin "isinstance") (BltR Φ W .isi bx) := CallR.of (CallR.or call_isi call_isiF) fun xs H Q ⟨m, S, vs, σ, s, r, h⟩ => by
  obtain ⟨v, w, rfl⟩ := blt2 (fun _ _ => rfl) h
  obtain ⟨x, y, rfl, rx, ry⟩ := rel2 r
  obtain ⟨b, e, hq⟩ := withO_ok h
  unfold isi at e
  cases ek : kindOf (der S v) with
  | none =>
    rw [ek] at e
    cases e
  | some k =>
    rw [ek] at e
    have ty := tyX_of s rx ek
    rw [hK]
    cases w with
    | ty t =>
      simp only [RelP] at ry
      subst ry
      have e : (match tyOf t with | some t => some (isK k t) | none => none) = some b := e
      cases et : tyOf t with
      | none =>
        rw [et] at e
        cases e
      | some t' =>
        rw [et] at e
        cases e
        obtain ⟨e1, e2⟩ := tyOf_ok et
        subst e1
        exact .inl ⟨x, _, _, _, _, rfl, .ty _, ty, kit_ty (kitB_k k t' e2), fin_bl s hq⟩
    | tup ts =>
      have e : isKs k ts = some b := e
      simp only [RelP] at ry
      obtain ⟨a, ys, rfl, h1, ry⟩ := ry
      obtain ⟨us, h2, h3⟩ := isKs_ok e ry
      exact .inr ⟨x, a, ys, _, us, b, rfl, h1.sq, h2, ty, h3, fin_bl s hq⟩
    | _ => cases e

/-! ### o.index(x), o.count(x) -/
inductive MtOk : Mt → Str → Prop
  | index : MtOk .index "index"
  | count : MtOk .count "count"
theorem firstIx_ok {x : PV} : ∀ {l : List PV} {i k : Nat}, firstIx x l i = some k → ∃ j y, k = i + j ∧ l[j]? = some y ∧ y.beq x = true ∧ ∀ n z, n < j → l[n]? = some z → z.beq x = false
  | [], i, k, h => by cases h
  | y :: ys, i, k, h => by
    have h : (if y.beq x then some i else firstIx x ys (i + 1)) = some k := h
    cases hb : y.beq x with
    | true =>
      rw [hb] at h
      cases h
      exact ⟨0, y, rfl, rfl, hb, fun n z hn => absurd hn (Nat.not_lt_zero _)⟩
    | false =>
      rw [hb] at h
      obtain ⟨j, z, h1, h2, h3, h4⟩ := firstIx_ok (i := i + 1) h
      refine ⟨j + 1, z, by omega, by simpa using h2, h3, fun n u hn hu => ?_⟩
      cases n with
      | zero =>
        have e : y = u := by simpa using hu
        rw [← e]
        exact hb
      | succ n => exact h4 n u (by omega) (by simpa using hu)
theorem firstIx_place {x : PV} {l : List PV} {k n d : Nat} (hx : x.shp n = true) (hl : PV.shps d l = true) (h : firstIx x l 0 = some k) : SeqAt.dataPlace (toDs l) (toD x) = some k := by
  obtain ⟨j, y, h1, h2, h3, h4⟩ := firstIx_ok h
  have e : k = j := by omega
  subst e
  have shp_at : ∀ {l : List PV}, PV.shps d l = true → ∀ (i : Nat) (z : PV), l[i]? = some z → z.shp d = true := fun {l} => by
    induction l with
    | nil => intro _ i z hz; simp at hz
    | cons a l ih =>
      intro hl i z hz
      have hl : (a.shp d && PV.shps d l) = true := by simpa only [PV.shps] using hl
      obtain ⟨a1, a2⟩ := and2 hl
      cases i with
      | zero =>
        have e : a = z := by simpa using hz
        rw [← e]
        exact a1
      | succ i => exact ih a2 i z (by simpa using hz)
  unfold SeqAt.dataPlace
  refine List.findIdx?_eq_some_iff_getElem.mpr ?_
  have hk : k < (toDs l).length := by
    rw [toDs_len]
    exact (List.getElem?_eq_some_iff.mp h2).1
  refine ⟨hk, ?_, fun i hi => ?_⟩
  · have e1 : (toDs l)[k]? = some (toD y) := by rw [toDs_get, h2]; rfl
    have e2 : (toDs l)[k] = toD y := (List.getElem?_eq_some_iff.mp e1).2
    rw [e2, toD_eqv _ _ _ _ (shp_at hl k y h2) hx]
    exact h3
  · have hi2 : i < l.length := by
      rw [toDs_len] at hk
      omega
    have e0 : l[i]? = some l[i] := List.getElem?_eq_getElem hi2
    have e1 : (toDs l)[i]? = some (toD l[i]) := by rw [toDs_get, e0]; rfl
    have e2 : (toDs l)[i]'(Nat.lt_trans hi hk) = toD l[i] := (List.getElem?_eq_some_iff.mp e1).2
    rw [e2, toD_eqv _ _ _ _ (shp_at hl i _ e0) hx, h4 i _ hi e0]
    exact Bool.false_ne_true
theorem countD_eq {x : PV} {n d : Nat} (hx : x.shp n = true) : ∀ {l : List PV}, PV.shps d l = true → ((toDs l).countP fun y => PyData.eqv y (toD x)) = countD x l
  | [], _ => rfl
  | y :: l, h => by
    have h : (y.shp d && PV.shps d l) = true := by simpa only [PV.shps] using h
    obtain ⟨h1, h2⟩ := and2 h
    have ih := countD_eq hx h2
    show List.countP _ (toD y :: toDs l) = _
    rw [List.countP_cons, ih, toD_eqv _ _ _ _ h1 hx]
    show _ = if y.beq x then countD x l + 1 else countD x l
    cases y.beq x <;> rfl
end
end Rn
set_option maxHeartbeats 1000007
/-! sorted of data, of a list or a tuple. -/
namespace Rn
open L2 PySem PyProof.Rows PySem.Spec

/-! ### the model's sorted, whatever sequence it is given -/
theorem sorted_any {prog : Program} {w : World} {A : Around} {E : Value → Shared → Prop} {s : Shared} {it : Addr} {ty : String} {o : Obj} {items : Array Value} {n : Nat} {Q : Value → Shared → Prop} (hT : ty = "list" ∨ ty = "tuple")
    (ho : s.heap.get? it = some o) (hc : o.cls = .type ty) (hd : o.data = .seq items n) (hz : items.size ≤ sizeLine) {β : Type} {R : Value → β → Prop} {enc : β → PyData} {bs : List β}
    (e : PySem.W.EachIs R items.toList bs) (er : PySem.W.EachIs (fun v b => ∃ as, Reads s.heap v (enc b) as) items.toList bs) (al : PySem.W.AllAlike (bs.map enc)) (so : PySem.W.Sortable (bs.map enc)) (hu : ∀ b, b ∈ bs → A.units + 2 + (enc b).depth < cLine)
    (h : ∀ (h' : Heap) (p : Addr) (out : List Value), (∀ b u, s.heap.get? b = some u → h'.get? b = some u) → s.heap.get? p = none → (∃ k, h'.get? p = some (seqObj "list" out.toArray k)) → out.length = bs.length → PySem.W.EachIs R out (bs.mergeSort (PySem.W.dataLe false enc)) → Q (.ref p) { s with heap := h' }) :
    wpAny (model prog w) A (call (.builtin "sorted") [.ref it]) Q E s := by
  refine PyProof.Rows.call_function_entry_kw kind_sorted plain_sorted entry_sorted (args_sorted1 _) ?_
  unfold Builtin.«sorted»
  apply wpAny_bind (m := checkCount "sorted" 1 1 _)
  apply wpAny_pure
  apply wpAny_bind
  refine wpAny_collect_seq it hT ho hc hd (fun h1 k1 => ?_) hz
  have hz2 : items.toList.length ≤ sizeLine := by simpa using hz
  refine wpAny_bind (wpAny_newList ?_ hz2)
  have at1 : (h1.push (seqObj "list" items.toList.toArray 0)).get? h1.objs.size = some (seqObj "list" items.toList.toArray 0) := Heap.get?_push_size _ rfl
  have k2 : ∀ b u, s.heap.get? b = some u → (h1.push (seqObj "list" items.toList.toArray 0)).get? b = some u := fun b u q => Heap.get?_push_of_some _ (k1 b u q)
  have fresh : s.heap.get? h1.objs.size = none := by
    cases q : s.heap.get? h1.objs.size with
    | none => rfl
    | some u => exact absurd (Heap.lt_size (k1 _ _ q)) (Nat.lt_irrefl _)
  have ne : ∀ {b u}, s.heap.get? b = some u → b ≠ h1.objs.size := fun {b u} q z => by
    rw [z, fresh] at q
    cases q
  have k3 : ∀ b u, s.heap.get? b = some u → (PySem.W.sortingHeap (h1.push (seqObj "list" items.toList.toArray 0)) h1.objs.size items.toList).get? b = some u := fun b u q => PySem.W.sortingHeap_old (ne q) (k2 b u q)
  have er2 : PySem.W.EachIs (fun v b => ∃ as, Reads (PySem.W.sortingHeap (h1.push (seqObj "list" items.toList.toArray 0)) h1.objs.size items.toList) v (enc b) as) items.toList bs := er.mono fun _ _ ⟨as, r⟩ => ⟨as, PyProof.Rows.Reads.keeps k3 r⟩
  have S : PySem.W.SortsAt prog w A.in1.in1 { s with heap := PySem.W.sortingHeap (h1.push (seqObj "list" items.toList.toArray 0)) h1.objs.size items.toList } (PySem.W.dataKind (PySem.W.sortingHeap (h1.push (seqObj "list" items.toList.toArray 0)) h1.objs.size items.toList) (bs.map enc)) items.toList :=
    PySem.W.SortsAt.data (s := { s with heap := PySem.W.sortingHeap (h1.push (seqObj "list" items.toList.toArray 0)) h1.objs.size items.toList }) (PySem.W.each_map (R := fun v d => ∃ as, Reads (PySem.W.sortingHeap (h1.push (seqObj "list" items.toList.toArray 0)) h1.objs.size items.toList) v d as) enc er2) al so (PySem.W.bound_map hu)
  refine wpAny_bind (wpAny_holding (wpAny_call_entry_kw slot_list_sort ⟨_, at1, rfl⟩ entry_list_sort ?_ (args_list_sort _)))
  refine wpAny_mono (PySem.W.list_sort_vals (s := { s with heap := h1.push (seqObj "list" items.toList.toArray 0) }) (P := fun f s' => f = .done (.ret .none) ∧ s' = { s with heap := sortedHeap (h1.push (seqObj "list" items.toList.toArray 0)) h1.objs.size items.toList (PySem.W.sortVals (PySem.W.dataKind (PySem.W.sortingHeap (h1.push (seqObj "list" items.toList.toArray 0)) h1.objs.size items.toList) (bs.map enc)) false items.toList items.toList).toArray }) at1 S hz2 ⟨rfl, rfl⟩) (fun f s' hf => ?_) fun _ _ z => z
  obtain ⟨rfl, rfl⟩ := hf
  refine ⟨_, rfl, wpAny_pure ⟨_, rfl, ?_⟩⟩
  refine h _ _ _ (fun b u q => ?_) fresh (sortedHeap_at at1) ?_ (PySem.W.sortVals_data false e er2 al)
  · rw [sortedHeap_old (ne q) (Heap.lt_size (k2 b u q))]
    exact k2 b u q
  · rw [PySem.W.sortVals_length false rfl]
    exact e.length

mutual
theorem same_eq : ∀ (a b : PV), PV.same a b = true → a = b := fun a b h => by
  cases a with
  | non => cases b <;> first | rfl | (simp [PV.same] at h)
  | bl x => cases b <;> first | (simp only [PV.same] at h; rw [eq_of_beq h]) | (simp [PV.same] at h)
  | int x => cases b <;> first | (simp only [PV.same] at h; rw [eq_of_beq h]) | (simp [PV.same] at h)
  | str x => cases b <;> first | (simp only [PV.same] at h; rw [eq_of_beq h]) | (simp [PV.same] at h)
  | tup x => cases b <;> first | (simp only [PV.same] at h; rw [sames_eq _ _ h]) | (simp [PV.same] at h)
  | lst x => cases b <;> first | (simp only [PV.same] at h; rw [sames_eq _ _ h]) | (simp [PV.same] at h)
  | fn x => cases b <;> first | (simp only [PV.same] at h; rw [Nat.eq_of_beq_eq_true h]) | (simp [PV.same] at h)
  | klst x => cases b <;> simp [PV.same] at h
  | box x => cases b <;> simp [PV.same] at h
  | ty x => cases b <;> simp [PV.same] at h
  | xc c x => cases b <;> simp [PV.same] at h
theorem sames_eq : ∀ (a b : List PV), PV.sames a b = true → a = b := fun a b h => by
  cases a with
  | nil => cases b <;> first | rfl | (simp [PV.sames] at h)
  | cons x xs =>
    cases b with
    | nil => simp [PV.sames] at h
    | cons y ys =>
      simp only [PV.sames] at h
      obtain ⟨h1, h2⟩ := and2 h
      rw [same_eq x y h1, sames_eq xs ys h2]
end

/-! ### the order -/
mutual
theorem alk_ok : ∀ (a b : PV), PV.alk a b = true → PySem.W.alike (toD a) (toD b) = true
  | .int _, b, h => by cases b <;> first | (simp [PV.alk] at h; done) | rfl
  | .str _, b, h => by cases b <;> first | (simp [PV.alk] at h; done) | rfl
  | .tup x, b, h => by
    cases b with
    | tup y =>
      simp only [PV.alk] at h
      simp only [toD, PySem.W.alike]
      exact alks_ok x y h
    | _ => simp [PV.alk] at h
  | .lst x, b, h => by
    cases b with
    | lst y =>
      simp only [PV.alk] at h
      simp only [toD, PySem.W.alike]
      exact alks_ok x y h
    | _ => simp [PV.alk] at h
  | .non, b, h => by cases b <;> simp [PV.alk] at h
  | .bl _, b, h => by cases b <;> simp [PV.alk] at h
  | .klst _, b, h => by cases b <;> simp [PV.alk] at h
  | .box _, b, h => by cases b <;> simp [PV.alk] at h
  | .fn _, b, h => by cases b <;> simp [PV.alk] at h
  | .ty _, b, h => by cases b <;> simp [PV.alk] at h
  | .xc _ _, b, h => by cases b <;> simp [PV.alk] at h
theorem alks_ok : ∀ (a b : List PV), PV.alks a b = true → PySem.W.alikeAll (toDs a) (toDs b) = true
  | [], b, h => by simp only [toDs, PySem.W.alikeAll]
  | x :: xs, [], h => by simp only [toDs, PySem.W.alikeAll]
  | x :: xs, y :: ys, h => by
    simp only [PV.alks] at h
    obtain ⟨h1, h2⟩ := and2 h
    simp only [toDs, PySem.W.alikeAll]
    rw [alk_ok x y h1, alks_ok xs ys h2]
    rfl
end
mutual
theorem alk_sym : ∀ (a b : PV), PV.alk a b = true → PV.alk b a = true
  | .int _, b, h => by cases b <;> first | (simp [PV.alk] at h; done) | rfl
  | .str _, b, h => by cases b <;> first | (simp [PV.alk] at h; done) | rfl
  | .tup x, b, h => by
    cases b with
    | tup y =>
      simp only [PV.alk] at h ⊢
      exact alks_sym x y h
    | _ => simp [PV.alk] at h
  | .lst x, b, h => by
    cases b with
    | lst y =>
      simp only [PV.alk] at h ⊢
      exact alks_sym x y h
    | _ => simp [PV.alk] at h
  | .non, b, h => by cases b <;> simp [PV.alk] at h
  | .bl _, b, h => by cases b <;> simp [PV.alk] at h
  | .klst _, b, h => by cases b <;> simp [PV.alk] at h
  | .box _, b, h => by cases b <;> simp [PV.alk] at h
  | .fn _, b, h => by cases b <;> simp [PV.alk] at h
  | .ty _, b, h => by cases b <;> simp [PV.alk] at h
  | .xc _ _, b, h => by cases b <;> simp [PV.alk] at h
theorem alks_sym : ∀ (a b : List PV), PV.alks a b = true → PV.alks b a = true
  | [], [], h => by simp only [PV.alks]
  | [], _ :: _, h => by simp only [PV.alks]
  | x :: xs, [], h => by simp only [PV.alks]
  | x :: xs, y :: ys, h => by
    simp only [PV.alks] at h ⊢
    obtain ⟨h1, h2⟩ := and2 h
    rw [alk_sym x y h1, alks_sym xs ys h2]
    rfl
end
mutual
theorem lt_ok : ∀ (n k : Nat) (a b : PV) (t : Bool), a.shp n = true → b.shp k = true → PV.alk a b = true → PV.lt a b = some t → PySem.W.dataLt (toD a) (toD b) = t
  | n, k, .int i, b, t, s1, s2, h, e => by
    cases b with
    | int j =>
      simp only [PV.lt, Option.some.injEq] at e
      simp only [toD, PySem.W.dataLt_int]
      rw [← e, ilt_eq]
    | _ => simp [PV.alk] at h
  | n, k, .str x, b, t, s1, s2, h, e => by
    cases b with
    | str y =>
      simp only [PV.lt, Option.some.injEq] at e
      simp only [toD, PySem.W.dataLt_str]
      exact e
    | _ => simp [PV.alk] at h
  | n, k, .tup x, b, t, s1, s2, h, e => by
    cases b with
    | tup y =>
      simp only [PV.lt] at e
      simp only [PV.alk] at h
      simp only [toD, PySem.W.dataLt_tuple]
      cases n with
      | zero => simp [PV.shp] at s1
      | succ n =>
        cases k with
        | zero => simp [PV.shp] at s2
        | succ k => exact lts_ok n k x y t (by simpa only [PV.shp] using s1) (by simpa only [PV.shp] using s2) h e
    | _ => simp [PV.alk] at h
  | n, k, .lst x, b, t, s1, s2, h, e => by
    cases b with
    | lst y =>
      simp only [PV.lt] at e
      simp only [PV.alk] at h
      simp only [toD, PySem.W.dataLt_list]
      cases n with
      | zero => simp [PV.shp] at s1
      | succ n =>
        cases k with
        | zero => simp [PV.shp] at s2
        | succ k => exact lts_ok n k x y t (by simpa only [PV.shp] using s1) (by simpa only [PV.shp] using s2) h e
    | _ => simp [PV.alk] at h
  | n, k, .non, b, t, s1, s2, h, e => by cases b <;> simp [PV.alk] at h
  | n, k, .bl _, b, t, s1, s2, h, e => by cases b <;> simp [PV.alk] at h
  | n, k, .klst _, b, t, s1, s2, h, e => by cases b <;> simp [PV.alk] at h
  | n, k, .box _, b, t, s1, s2, h, e => by cases b <;> simp [PV.alk] at h
  | n, k, .fn _, b, t, s1, s2, h, e => by cases b <;> simp [PV.alk] at h
  | n, k, .ty _, b, t, s1, s2, h, e => by cases b <;> simp [PV.alk] at h
  | n, k, .xc _ _, b, t, s1, s2, h, e => by cases b <;> simp [PV.alk] at h
theorem lts_ok : ∀ (n k : Nat) (a b : List PV) (t : Bool), PV.shps n a = true → PV.shps k b = true → PV.alks a b = true → PV.lts a b = some t → PyProof.Rows.lexLt itemOrd (PySem.W.keyToksAll (toDs a)) (PySem.W.keyToksAll (toDs b)) = t
  | n, k, [], [], t, _, _, _, e => by
    simp only [PV.lts, Option.some.injEq] at e
    rw [← e]
    decide
  | n, k, [], y :: ys, t, _, _, _, e => by
    simp only [PV.lts, Option.some.injEq] at e
    rw [← e]
    simp only [toDs, PySem.W.keyToksAll]
    rfl
  | n, k, x :: xs, [], t, _, _, _, e => by
    simp only [PV.lts, Option.some.injEq] at e
    rw [← e]
    simp only [toDs, PySem.W.keyToksAll]
    rfl
  | n, k, x :: xs, y :: ys, t, s1, s2, h, e => by
    simp only [PV.shps] at s1 s2
    obtain ⟨a1, a2⟩ := and2 s1
    obtain ⟨b1, b2⟩ := and2 s2
    simp only [PV.alks] at h
    obtain ⟨h1, h2⟩ := and2 h
    simp only [PV.lts] at e
    simp only [toDs]
    rw [PySem.W.dataLt_cons (alk_ok x y h1), toD_eqv n k x y a1 b1]
    cases q : x.beq y with
    | true =>
      rw [q] at e
      exact lts_ok n k xs ys t a2 b2 h2 e
    | false =>
      rw [q] at e
      exact lt_ok n k x y t a1 b1 h1 e
end
theorem insD_perm {x : PV} : ∀ {l r : List PV}, insD x l = some r → r.Perm (x :: l)
  | [], r, e => by
    cases e
    exact List.Perm.refl _
  | y :: ys, r, e => by
    simp only [insD] at e
    split at e
    · split at e
      · rename_i l' e2
        cases e
        exact ((insD_perm e2).cons y).trans (List.Perm.swap _ _ _)
      · cases e
    · cases e
      exact List.Perm.refl _
    · cases e
theorem sortD_perm : ∀ {l r : List PV}, sortD l = some r → r.Perm l
  | [], r, e => by
    cases e
    exact List.Perm.refl _
  | x :: xs, r, e => by
    simp only [sortD] at e
    split at e
    · rename_i l' e2
      exact (insD_perm e).trans ((sortD_perm e2).cons x)
    · cases e
theorem oB_ok {o : Option Bool} {b : Bool} (h : oB o b = true) : o = some b := by
  unfold oB at h
  split at h
  · rw [eq_of_beq h]
  · cases h
theorem shps_at {n : Nat} : ∀ {l : List PV}, PV.shps n l = true → ∀ p ∈ l, p.shp n = true
  | [], _, p, m => nomatch m
  | x :: xs, h, p, m => by
    simp only [PV.shps] at h
    obtain ⟨h1, h2⟩ := and2 h
    rcases List.mem_cons.mp m with z | z
    · rw [z]
      exact h1
    · exact shps_at h2 p z
abbrev leD : PV → PV → Bool := PySem.W.dataLe false toD
theorem leD_eq (a b : PV) : leD a b = !PySem.W.dataLt (toD b) (toD a) := rfl
theorem sorted2_ok {n : Nat} : ∀ {r : List PV}, (∀ p ∈ r, p.shp n = true) → sorted2 r = true → (∀ p ∈ r, ∀ q ∈ r, PV.alk p q = true) ∧ r.Pairwise (fun a b => leD a b = true ∧ (leD b a = true → a = b))
  | [], _, _ => ⟨(fun p m => nomatch m), List.Pairwise.nil⟩
  | a :: r, sh, h => by
    obtain ⟨h, h3⟩ := and2 (show (PV.alk a a && r.all (okPair a) && sorted2 r) = true from h)
    obtain ⟨h1, h2⟩ := and2 h
    obtain ⟨k1, k2⟩ := sorted2_ok (n := n) (fun p m => sh p (List.mem_cons_of_mem _ m)) h3
    have each : ∀ b ∈ r, PV.alk a b = true ∧ leD a b = true ∧ (leD b a = true → a = b) := fun b m => by
      obtain ⟨q, q3⟩ := and2 (show (PV.alk a b && oB (PV.lt b a) false && (oB (PV.lt a b) true || PV.same a b)) = true from List.all_eq_true.mp h2 b m)
      obtain ⟨q1, q2⟩ := and2 q
      have sa := sh a List.mem_cons_self
      have sb := sh b (List.mem_cons_of_mem _ m)
      refine ⟨q1, ?_, fun z => ?_⟩
      · rw [leD_eq, lt_ok n n b a false sb sa (alk_sym a b q1) (oB_ok q2)]
        rfl
      · rcases Bool.or_eq_true_iff.mp q3 with q3 | q3
        · rw [leD_eq, lt_ok n n a b true sa sb q1 (oB_ok q3)] at z
          cases z
        · exact same_eq a b q3
    refine ⟨fun p mp q mq => ?_, List.pairwise_cons.mpr ⟨fun b m => (each b m).2, k2⟩⟩
    rcases List.mem_cons.mp mp with zp | zp
    · rcases List.mem_cons.mp mq with zq | zq
      · rw [zp, zq]
        exact h1
      · rw [zp]
        exact (each q zq).1
    · rcases List.mem_cons.mp mq with zq | zq
      · rw [zq]
        exact alk_sym a p (each p zp).1
      · exact k1 p zp q zq
theorem pw_all {α : Type} {R : α → α → Prop} (hr : ∀ a, R a a) (hs : ∀ a b, R a b → R b a) : ∀ l : List α, l.Pairwise R → ∀ a ∈ l, ∀ b ∈ l, R a b
  | [], _, a, m => nomatch m
  | x :: xs, h, a, ma => fun b mb => by
    have zq2 := List.pairwise_cons.mp h
    obtain ⟨h1, h2⟩ := zq2
    rcases List.mem_cons.mp ma with za | za
    · rcases List.mem_cons.mp mb with zb | zb
      · rw [za, zb]
        exact hr x
      · rw [za]
        exact h1 b zb
    · rcases List.mem_cons.mp mb with zb | zb
      · rw [zb]
        exact hs x a (h1 a za)
      · exact pw_all hr hs xs h2 a za b zb
theorem sort_same {n : Nat} {l r : List PV} (sh : ∀ p ∈ l, p.shp n = true) (e : sortD l = some r) (h : sorted2 r = true) : l.mergeSort leD = r ∧ ∀ p ∈ l, ∀ q ∈ l, PV.alk p q = true := by
  have pm := sortD_perm e
  obtain ⟨k1, k2⟩ := sorted2_ok (n := n) (fun p m => sh p (pm.mem_iff.mp m)) h
  refine ⟨?_, fun p mp q mq => k1 p (pm.mem_iff.mpr mp) q (pm.mem_iff.mpr mq)⟩
  have anti : ∀ a ∈ r, ∀ b ∈ r, leD a b = true → leD b a = true → a = b := fun a ma b mb h1 h2 => by
    exact pw_all (R := fun a b => leD a b = true → leD b a = true → a = b) (fun a _ _ => rfl) (fun a b q h1 h2 => (q h2 h1).symm) r (k2.imp fun q _ h2 => q.2 h2) a ma b mb h1 h2
  exact List.Perm.eq_of_pairwise (le := fun a b => leD a b = true) (fun a b ma mb h1 h2 => anti a ((List.mergeSort_perm l leD).trans pm.symm |>.mem_iff.mp ma) b mb h1 h2) (PySem.W.sort_pairwise (PySem.W.sortLe_total _ _ _) l) (k2.imp fun q => q.1) ((List.mergeSort_perm l leD).trans pm.symm)

/-! ### the rule of sorted -/
section
variable {X : Cx} {Φ : Fm} {W : WX} {m m1 : Mp} {H H1 : Hp} {S : Sto} {ρ : Env} {σ : L2.St} {pos p2 : Pos}
def rSortD (K : PySem.W.Frag) : List V → Hp → VK → Prop := fun vs H Q => ∃ a ys ds, vs = [V.ref a] ∧ (SqL K H a ys ∨ SqT K H a ys) ∧ DpAll K H ys ds ∧ PySem.W.AllAlike ds ∧ PySem.W.Sortable ds ∧ (∀ d ∈ ds, d.depth ≤ 100) ∧
  ∀ p, H p = none → Q (.ref p) (upd H p (.lst (((ys.zip ds).mergeSort (PySem.W.dataLe false Prod.snd)).map Prod.fst)))
theorem each_zip {h : Heap} : ∀ {ys : List V} {us : List Value} {ds : List PyData} {as : List Addr}, Vals ys us → ReadsAll h us ds as → PySem.W.EachIs (fun u (b : V × PyData) => RelV b.1 u) us (ys.zip ds) ∧ PySem.W.EachIs (fun u (b : V × PyData) => ∃ as, Reads h u b.2 as) us (ys.zip ds)
  | [], _, _, _, .nil, .nil => ⟨.nil, .nil⟩
  | y :: ys, u :: us, d :: ds, _, .cons r t, .cons q z => ⟨.cons r (each_zip t z).1, .cons ⟨_, q⟩ (each_zip t z).2⟩
theorem each_vals : ∀ {us : List Value} {bs : List (V × PyData)}, PySem.W.EachIs (fun u (b : V × PyData) => RelV b.1 u) us bs → Vals (bs.map Prod.fst) us
  | [], [], .nil => .nil
  | u :: us, b :: bs, .cons r t => .cons r (each_vals t)
theorem rd_len {h : Heap} : ∀ {us : List Value} {ds : List PyData} {as : List Addr}, ReadsAll h us ds as → us.length = ds.length
  | _, _, _, .nil => rfl
  | _, _, _, .cons _ t => congrArg Nat.succ (rd_len t)
theorem zip_snd {α β : Type} : ∀ {xs : List α} {ys : List β}, xs.length = ys.length → (xs.zip ys).map Prod.snd = ys
  | [], [], _ => rfl
  | x :: xs, y :: ys, h => by
    rw [List.zip_cons_cons, List.map_cons, zip_snd (Nat.succ.inj h)]
theorem cr_sortD (hu : RUnits X) : CallR X (.builtin "sorted") (rSortD X.K) := by
  intro pins s σ H vs
  intro us Q I r h
  obtain ⟨a, ys, ds, rfl, hq, hd, al, so, dp, q⟩ := h
  rw [Vals.ref1 r]
  obtain ⟨its, ty, o, n, rv, hT, ho, hc, hdt, hlen⟩ : ∃ (its : List Value) (ty : String) (o : Obj) (n : Nat), Vals ys its ∧ (ty = "list" ∨ ty = "tuple") ∧ s.heap.get? a = some o ∧ o.cls = .type ty ∧ o.data = .seq its.toArray n ∧ ys.length ≤ sizeLine := by
    rcases hq with hq | hq
    · obtain ⟨its, rv, pl, hl⟩ := I.list hq
      obtain ⟨o, ho, hc, n, hdt⟩ := pl.isList
      exact ⟨its, _, o, n, rv, .inl rfl, ho, hc, hdt, hl⟩
    · obtain ⟨its, rv, ⟨o, ho, hc, n, hdt⟩, hl⟩ := I.tuple hq
      exact ⟨its, _, o, n, rv, .inr rfl, ho, hc, hdt, hl⟩
  obtain ⟨as, rd⟩ := Dp.readsAll I ds _ its hd rv
  have l1 : ys.length = its.length := rv.length
  have l2 := rd_len rd
  have ez := zip_snd (xs := ys) (ys := ds) (by omega)
  obtain ⟨e, er⟩ := each_zip rv rd
  refine sorted_any (s := s) hT ho hc hdt (by simp only [List.size_toArray]; omega) (enc := Prod.snd) (bs := ys.zip ds) e er (by rw [ez]; exact al) (by rw [ez]; exact so) (fun b hb => ?_) fun h' p out hk hp ⟨k, hn⟩ hol eo => ?_
  · have z := dp b.2 (by rw [← ez]; exact List.mem_map_of_mem hb)
    unfold RUnits at hu
    omega
  · have hf : H p = none := HOk.gone I.hok hp
    have ev := each_vals eo
    have lz : (ys.zip ds).length = ys.length := by rw [List.length_zip]; omega
    have hl3 : (((ys.zip ds).mergeSort (PySem.W.dataLe false Prod.snd)).map Prod.fst).length ≤ sizeLine := by
      rw [List.length_map, List.length_mergeSort, lz]
      exact hlen
    exact ⟨.ref p, _, I.laidN (t' := s.toks) hk hp hf (show ObjOk X.prog X.w _ h' p (.lst _) from ⟨hl3, out, k, ev, hn⟩), rfl, q p hf⟩
theorem toDs_map : ∀ l : List PV, toDs l = l.map toD
  | [] => rfl
  | x :: l => by
    rw [List.map_cons, ← toDs_map l]
    simp only [toDs]
theorem zip_rel : ∀ {l : List PV} {ys : List V}, RelPs Φ m H l ys → ∀ c ∈ ys.zip l, RelP Φ m H c.2 c.1
  | [], ys, _, c, mc => by cases ys <;> exact nomatch mc
  | p :: l, [], _, c, mc => nomatch mc
  | p :: l, y :: ys, r, c, mc => by
    simp only [RelPs] at r
    obtain ⟨y', ys', e, r1, r2⟩ := r
    cases e
    rcases List.mem_cons.mp mc with z | z
    · rw [z]
      exact r1
    · exact zip_rel r2 c z
theorem rel_pairs : ∀ {cs : List (V × PV)}, (∀ c ∈ cs, RelP Φ m H c.2 c.1) → RelPs Φ m H (cs.map Prod.snd) (cs.map Prod.fst)
  | [], _ => by simp only [List.map_nil, RelPs]
  | c :: cs, h => by
    rw [List.map_cons]
    rw [List.map_cons]
    exact RelPs.cons (h c List.mem_cons_self) (rel_pairs fun c mc => h c (List.mem_cons_of_mem _ mc))
theorem b_sortedD (hK : X.K = Φ.K) (hu : RUnits X) {bx : Bool} : CallR X (.builtin "sorted") (fun xs H Q => ∃ m S v σ, RelS Φ m S H ∧ RelPs Φ m H [v] xs ∧ PostE Φ W m H σ (sortV bx v S) Q) := CallR.of (cr_sortD hu) fun xs H Q ⟨m, S, v, σ, s, r, h⟩ => by
  obtain ⟨x, rfl, rx⟩ := rel1 r
  obtain ⟨l, e, h⟩ := withO_ok h
  obtain ⟨a, ys, rfl, hs, ry⟩ := seq_ok s rx e
  cases c1 : (PV.shps deep l && (l.all neTup || l.all noTup)) with
  | false =>
    rw [c1] at h
    exact False.elim h
  | true =>
    rw [c1] at h
    obtain ⟨c1, c2⟩ := and2 c1
    cases c3 : sortD l with
    | none =>
      rw [c3] at h
      exact False.elim h
    | some r =>
      rw [c3] at h
      have h : PostE Φ W m H σ (if sorted2 r then mk bx r S else .no) Q := h
      cases c4 : sorted2 r with
      | false =>
        rw [c4] at h
        exact False.elim h
      | true =>
        rw [c4] at h
        have sh := shps_at c1
        obtain ⟨es, al⟩ := sort_same sh c3 c4
        have lz := ry.length
        rw [hK]
        refine ⟨a, ys, toDs l, rfl, hs, toDs_rel _ l ys c1 ry, ?_, ?_, ?_, fun p hn => ?_⟩
        · rw [toDs_map]
          intro d hd d' hd'
          obtain ⟨x, mx, rfl⟩ := List.mem_map.mp hd
          obtain ⟨y, my, rfl⟩ := List.mem_map.mp hd'
          exact alk_ok x y (al x mx y my)
        · rw [toDs_map]
          rcases Bool.or_eq_true_iff.mp c2 with c2 | c2
          · refine .inl fun d hd => ?_
            obtain ⟨x, mx, rfl⟩ := List.mem_map.mp hd
            have z := List.all_eq_true.mp c2 x mx
            cases x with
            | tup w =>
              cases w with
              | nil => cases z
              | cons w ws => exact ⟨toD w, toDs ws, by simp only [toD, toDs]⟩
            | _ => cases z
          · refine .inr fun d hd => ?_
            obtain ⟨x, mx, rfl⟩ := List.mem_map.mp hd
            have z := List.all_eq_true.mp c2 x mx
            have z2 := al x mx x mx
            cases x with
            | int i => exact ⟨(fun q => nomatch q), fun xs q => nomatch q⟩
            | str i => exact ⟨(fun q => nomatch q), fun xs q => nomatch q⟩
            | lst w => exact ⟨(by simp only [toD]; exact fun q => nomatch q), fun xs => by simp only [toD]; exact fun q => nomatch q⟩
            | tup w => cases z
            | _ => simp [PV.alk] at z2
        · rw [toDs_map]
          intro d hd
          obtain ⟨x, mx, rfl⟩ := List.mem_map.mp hd
          have z := toD_depth deep x (sh x mx)
          unfold deep at z
          omega
        · have f1 : ys.zip (toDs l) = (ys.zip l).map fun c => (c.1, toD c.2) := by
            rw [toDs_map]
            exact List.zip_map_right ..
          have f2 := PySem.W.sort_maps (r := PySem.W.dataLe false fun c : V × PV => toD c.2) (s := PySem.W.dataLe false (Prod.snd (α := V))) (fun c : V × PV => (c.1, toD c.2)) (l := ys.zip l) fun _ _ _ _ => rfl
          have f3 := PySem.W.sort_maps (r := PySem.W.dataLe false fun c : V × PV => toD c.2) (s := leD) (fun c : V × PV => c.2) (l := ys.zip l) fun _ _ _ _ => rfl
          have f4 : (ys.zip l).map (fun c : V × PV => c.2) = l := zip_snd (by omega)
          rw [f4, es] at f3
          rw [f1, ← f2, List.map_map]
          have rr : RelPs Φ m H (((ys.zip l).mergeSort (PySem.W.dataLe false fun c : V × PV => toD c.2)).map Prod.snd) (((ys.zip l).mergeSort (PySem.W.dataLe false fun c : V × PV => toD c.2)).map Prod.fst) := rel_pairs fun c mc => zip_rel ry c (List.mem_mergeSort.mp mc)
          rw [show List.map Prod.snd _ = r from f3] at rr
          exact (mk_ok s rr h hn).2
theorem b_sorted (hK : X.K = Φ.K) (hu : RUnits X) {bx : Bool} : CallR X (.builtin "sorted") (BltR Φ W .sorted bx) := CallR.of (CallR.or (b_sortedI (Φ := Φ) (W := W) hK (bx := bx)) (b_sortedD (Φ := Φ) (W := W) hK hu (bx := bx))) fun xs H Q ⟨m, S, vs, σ, s, r, h⟩ => by
  obtain ⟨v, rfl⟩ := blt1 (fun _ _ _ => rfl) h
  have h : PostE Φ W m H σ (if isIntL S v then sortO bx v S else sortV bx v S) Q := h
  cases c : isIntL S v with
  | true =>
    rw [c] at h
    exact .inl ⟨m, S, v, σ, s, r, h⟩
  | false =>
    rw [c] at h
    exact .inr ⟨m, S, v, σ, s, r, h⟩
end
end Rn
set_option maxHeartbeats 1000007
/-! The runner is right: calls of built-ins, of methods. -/
namespace Rn
open L2 PySem PyProof.Rows PySem.Spec

def blN : Bl → String
  | .len => "len" | .abs => "abs" | .int => "int" | .str => "str" | .list => "list" | .tuple => "tuple" | .isi => "isinstance" | .sum => "sum" | .any => "any" | .all => "all" | .max => "max" | .min => "min" | .sorted => "sorted" | .max2 => "max" | .min2 => "min"
def blV : Bl → Value
  | .int => .type "int" | .str => .type "str" | .list => .type "list" | .tuple => .type "tuple"
  | b => .builtin (blN b)
def blOk : Bl → Bool
  | .str => false
  | _ => true
section
variable {X : Cx} {Φ : Fm} {W : WX} {m m1 : Mp} {H H1 : Hp} {S : Sto} {ρ : Env} {σ : L2.St} {pos p2 apos cpos : Pos} {f g : Run} {o e : Expr} {es : List Expr}
theorem b_any_of {b : Bl} {bx : Bool} (h : blOk b = true) (hK : X.K = Φ.K) (hc : X.calm = true) (hu : RUnits X) : CallR X (blV b) (BltR Φ W b bx) := by
  cases b with
  | len => exact b_len hK
  | abs => exact b_abs
  | int => exact b_int
  | str => cases h
  | list => exact b_list hK
  | tuple => exact b_tuple hK
  | isi => exact b_isi hK
  | sum => exact b_sum hK hc
  | any => exact b_any hK hc
  | all => exact b_all hK hc
  | max => exact b_max hK hc hu
  | min => exact b_min hK hc hu
  | sorted => exact b_sorted hK hu
  | max2 => exact b_max2 hc
  | min2 => exact b_min2 hc
theorem pe_bltR {b : Bl} {bx : Bool} {x : Str} (hx : x = Str.ofString (blN b)) (hb : blOk b = true) (hK : X.K = Φ.K) (hc : X.calm = true) (hu : RUnits X) (hg : Gl X x) (hm : X.mg x = none) (hp : plainE e = true) (hps : plainEs es = true) (ha : PA X (e :: es) (tRA Φ W f)) :
    PE X (.Call (.Name x p2) (e :: es) [] pos) (tR Φ W fun ρ S => (f ρ S).bind fun r S1 => withL r fun vs => blt b bx vs S1) := by
  have fin : ∀ σ H Q, tR Φ W (fun ρ S => (f ρ S).bind fun r S1 => withL r fun vs => blt b bx vs S1) σ H Q → tCB (BltR Φ W b bx) (tRA Φ W f) σ H Q := fun σ H Q ⟨m, ρ, S, s, e, h⟩ =>
    chainA s e h fun l S1 m1 H1 vs e1 s1 E1 r1 h1 => ⟨m1, S1, l, σ, s1, r1, h1⟩
  have hC := b_any_of (W := W) (bx := bx) hb hK hc hu
  have h1 := star_plain hp es X.env
  have h2 := stars_plain hps pos X.env
  subst hx
  cases b with
  | str => cases hb
  | int => exact PE.of (pe_callTy hC hg hm (by decide +kernel) ha (by decide) (by decide) h1 h2) fin
  | list => exact PE.of (pe_callTy hC hg hm (by decide +kernel) ha (by decide) (by decide) h1 h2) fin
  | tuple => exact PE.of (pe_callTy hC hg hm (by decide +kernel) ha (by decide) (by decide) h1 h2) fin
  | len => exact PE.of (pe_callB hC hg hm (by decide +kernel) ha (by decide) (by decide) h1 h2) fin
  | abs => exact PE.of (pe_callB hC hg hm (by decide +kernel) ha (by decide) (by decide) h1 h2) fin
  | isi => exact PE.of (pe_callB hC hg hm (by decide +kernel) ha (by decide) (by decide) h1 h2) fin
  | sum => exact PE.of (pe_callB hC hg hm (by decide +kernel) ha (by decide) (by decide) h1 h2) fin
  | any => exact PE.of (pe_callB hC hg hm (by decide +kernel) ha (by decide) (by decide) h1 h2) fin
  | all => exact PE.of (pe_callB hC hg hm (by decide +kernel) ha (by decide) (by decide) h1 h2) fin
  | max => exact PE.of (pe_callB hC hg hm (by decide +kernel) ha (by decide) (by decide) h1 h2) fin
  | min => exact PE.of (pe_callB hC hg hm (by decide +kernel) ha (by decide) (by decide) h1 h2) fin
  | sorted => exact PE.of (pe_callB hC hg hm (by decide +kernel) ha (by decide) (by decide) h1 h2) fin
  | max2 => exact PE.of (pe_callB hC hg hm (by decide +kernel) ha (by decide) (by decide) h1 h2) fin
  | min2 => exact PE.of (pe_callB hC hg hm (by decide +kernel) ha (by decide) (by decide) h1 h2) fin

/-! ### o.index(x), o.count(x) -/
/-- a sequence whose very place has no dict of its own -/
def SeqD (K : PySem.W.Frag) (H : Hp) (a : Addr) (ys : List V) (t : Bool) : Prop := match t with
  | false => SqL K H a ys
  | true => SqT K H a ys ∧ ((∃ o, K.lookup a = some o ∧ o.cls = .type "tuple" ∧ o.dict = none) ∨ ∃ o u, H a = some (.frz o u) ∧ o.cls = .type "tuple" ∧ o.dict = none)
def isT : PV → Bool
  | .tup _ => true
  | _ => false
theorem seqD_of (s : RelS Φ m S H) {p : PV} {v : V} {l : List PV} (r : RelP Φ m H p v) (h : seqOf S p = some l) : ∃ a xs, v = .ref a ∧ SeqD Φ.K H a xs (isT p) ∧ RelPs Φ m H l xs := by
  cases p with
  | tup l' =>
    simp only [RelP] at r
    obtain ⟨a, xs, e, h1, h2⟩ := r
    cases h
    refine ⟨a, xs, e, ⟨h1.sq, ?_⟩, h2⟩
    rcases h1 with ⟨o, its, n, q1, q2, q3, _⟩ | ⟨⟨o, q1, q2, q3⟩, _⟩
    · exact .inl ⟨o, q1, q2, q3⟩
    · exact .inr ⟨o, _, q1, q2, q3⟩
  | lst l' =>
    obtain ⟨a, xs, h1, h2, h3⟩ := lst_ok s r (l := l) h
    exact ⟨a, xs, h1, SqL.of h2, h3⟩
  | klst l' =>
    simp only [RelP] at r
    obtain ⟨a, xs, e, h1, h2⟩ := r
    cases h
    exact ⟨a, xs, e, h1.sq, h2⟩
  | box n =>
    obtain ⟨a, xs, h1, h2, h3⟩ := lst_ok s r (l := l) h
    exact ⟨a, xs, h1, SqL.of h2, h3⟩
  | _ => cases h
theorem seqD_is {pins : List (Addr × Obj)} {s : Shared} {a : Addr} {ys : List V} {t : Bool} (I : L2.Inv X pins σ H s) (h : SeqD X.K H a ys t) :
    s.TypeIs (.ref a) (if t then "tuple" else "list") ∧ ∀ b, Value.ref a = .ref b → ∃ ob, s.heap.get? b = some ob ∧ ob.dict = none := by
  cases t with
  | false => exact tyV_is (v := .ref a) (x := .ref a) I rfl (.inl ⟨rfl, ys, h⟩)
  | true =>
    obtain ⟨hq, h1 | ⟨o, u, h1, h2, h3⟩⟩ := h
    · exact tyV_is (v := .ref a) (x := .ref a) I rfl (.inr (.inl ⟨rfl, h1⟩))
    · obtain ⟨e, _⟩ := (show ObjOk X.prog X.w H s.heap a (.frz o u) from I.hok a _ h1)
      refine ⟨⟨o, e, h2⟩, fun b eb => ?_⟩
      cases eb
      exact ⟨o, e, h3⟩
def mtN : Mt → String
  | .index => "index"
  | _ => "count"
def mtOk : Mt → Bool
  | .index => true
  | .count => true
  | _ => false
def mtI (t : Bool) (m : Mt) : String := match t, m with
  | false, .index => "list.index"
  | false, _ => "list.count"
  | true, .index => "tuple.index"
  | true, _ => "tuple.count"
/-- the answer, told by data -/
def mtD (m : Mt) (ds : List PyData) (d : PyData) : Option Nat := match m with
  | .index => SeqAt.dataPlace ds d
  | _ => some (ds.countP fun y => PyData.eqv y d)
def SqB (K : PySem.W.Frag) (H : Hp) (a : Addr) (ys : List V) (t : Bool) : Prop := match t with
  | false => SqL K H a ys
  | true => SqT K H a ys
def rMtD (K : PySem.W.Frag) (t : Bool) (m : Mt) : V → List V → Hp → VK → Prop := fun x xs H Q => ∃ a ys y d ds k, x = .ref a ∧ xs = [y] ∧ SqB K H a ys t ∧ DpAll K H ys ds ∧ Dp K H y d ∧ PyData.plainAll ds = true ∧ d.plain = true ∧ d.depth ≤ 100 ∧
  mtD m ds d = some k ∧ Q (.int k) H
theorem mt_index_list (hu : RUnits X) : MtR X "list.index" (rMtD X.K false .index) := by
  intro pins s σ H x xs
  intro v us Q I rx rxs h
  obtain ⟨a, ys, y, d, ds, k, rfl, rfl, hs, ha, hd, ps, pd, hz, hk, q⟩ := h
  cases rx
  have zq79 := vals1 rxs
  obtain ⟨u, rfl, ru⟩ := zq79
  have hm : min (PyData.depthAll ds) d.depth ≤ d.depth := Nat.min_le_right _ _
  have room : X.A.units + 1 + min (PyData.depthAll ds) d.depth < cLine := by unfold RUnits at hu; omega
  obtain ⟨bs, r1⟩ := Dp.reads I d y u hd ru
  obtain ⟨its, rv, ⟨⟨cls, dd, data, sl⟩, n, ho, hc, hdn, hdt⟩, hlen⟩ := I.list (show SqL X.K H a ys from hs)
  simp only at hc hdt
  subst hc hdt
  have zq80 := Dp.readsAll I ds _ its ha rv
  obtain ⟨as, h4⟩ := zq80
  have hvl := rv.length
  have hsl := sizeLine_eq
  obtain ⟨hj, h5, h6⟩ := SeqAt.hit_at (vs := its.toArray) (show ReadsAll s.heap its.toArray.toList ds as from h4) ps hk
  refine call_meets PySem.F.slot_list_index ⟨_, ho,
        rfl⟩ PySem.F.entry_list_index (PySem.F.args_list_index_2 _ _)
    (SeqAt.list_indexAt a its.toArray n dd sl u (fun z => PyData.eqv (SeqAt.readOf s.heap z) d) k hj (by simp only [List.size_toArray] at hj; omega) h5 h6) ⟨ho, SeqAt.items_plain (vs := its.toArray) (show ReadsAll s.heap its.toArray.toList ds as from h4) r1 ps pd room, ?_⟩
  exact ⟨.int k, H, I.tok _, ⟨_, rfl⟩, q⟩
theorem mt_index_tuple (hu : RUnits X) : MtR X "tuple.index" (rMtD X.K true .index) := by
  intro pins s σ H x xs
  intro v us Q I rx rxs h
  obtain ⟨a, ys, y, d, ds, k, rfl, rfl, hs, ha, hd, ps, pd, hz, hk, q⟩ := h
  cases rx
  have zq83 := vals1 rxs
  obtain ⟨u, rfl, ru⟩ := zq83
  have hm : min (PyData.depthAll ds) d.depth ≤ d.depth := Nat.min_le_right _ _
  have room : X.A.units + 1 + min (PyData.depthAll ds) d.depth < cLine := by unfold RUnits at hu; omega
  obtain ⟨bs, r1⟩ := Dp.reads I d y u hd ru
  obtain ⟨its, rv, ⟨⟨cls, dd, data, sl⟩, ho, hc, n, hdt⟩, hlen⟩ := I.tuple (show SqT X.K H a ys from hs)
  simp only at hc hdt
  subst hc hdt
  have zq84 := Dp.readsAll I ds _ its ha rv
  obtain ⟨as, h4⟩ := zq84
  obtain ⟨hj, h5, h6⟩ := SeqAt.hit_at (vs := its.toArray) (show ReadsAll s.heap its.toArray.toList ds as from h4) ps hk
  refine call_meets PySem.F.slot_tuple_index ⟨_, ho, rfl⟩ PySem.F.entry_tuple_index (PySem.F.args_tuple_index_2 _ _)
    (TI.tuple_indexAt a its.toArray n dd sl u (fun z => PyData.eqv (SeqAt.readOf s.heap z) d) k hj h5 h6) ⟨ho, SeqAt.items_plain (vs := its.toArray) (show ReadsAll s.heap its.toArray.toList ds as from h4) r1 ps pd room, ?_⟩
  exact ⟨.int k, H, I.tok _, ⟨_, rfl⟩, q⟩
theorem mt_count_list (hu : RUnits X) : MtR X "list.count" (rMtD X.K false .count) := by
  intro pins s σ H x xs
  intro v us Q I rx rxs h
  obtain ⟨a, ys, y, d, ds, k, rfl, rfl, hs, ha, hd, ps, pd, hz, hk, q⟩ := h
  cases rx
  have zq86 := vals1 rxs
  obtain ⟨u, rfl, ru⟩ := zq86
  have hm : min (PyData.depthAll ds) d.depth ≤ d.depth := Nat.min_le_right _ _
  have room : X.A.units + 1 + min (PyData.depthAll ds) d.depth < cLine := by unfold RUnits at hu; omega
  obtain ⟨bs, r1⟩ := Dp.reads I d y u hd ru
  obtain ⟨its, rv, pl, hlen⟩ := I.list (show SqL X.K H a ys from hs)
  have zq87 := Dp.readsAll I ds _ its ha rv
  obtain ⟨as, h4⟩ := zq87
  cases hk
  exact SeqAt.count_list_data pl.isList (show ReadsAll s.heap its.toArray.toList ds as from h4) r1 ps pd room ⟨.int _, H, I.tok _, ⟨_, rfl⟩, q⟩
theorem mt_count_tuple (hu : RUnits X) : MtR X "tuple.count" (rMtD X.K true .count) := by
  intro pins s σ H x xs
  intro v us Q I rx rxs h
  obtain ⟨a, ys, y, d, ds, k, rfl, rfl, hs, ha, hd, ps, pd, hz, hk, q⟩ := h
  cases rx
  have zq89 := vals1 rxs
  obtain ⟨u, rfl, ru⟩ := zq89
  have hm : min (PyData.depthAll ds) d.depth ≤ d.depth := Nat.min_le_right _ _
  have room : X.A.units + 1 + min (PyData.depthAll ds) d.depth < cLine := by unfold RUnits at hu; omega
  obtain ⟨bs, r1⟩ := Dp.reads I d y u hd ru
  obtain ⟨its, rv, pl, hlen⟩ := I.tuple (show SqT X.K H a ys from hs)
  have zq90 := Dp.readsAll I ds _ its ha rv
  obtain ⟨as, h4⟩ := zq90
  cases hk
  exact SeqAt.count_tuple_data (isTuple_of pl) (show ReadsAll s.heap its.toArray.toList ds as from h4) r1 ps pd room ⟨.int _, H, I.tok _, ⟨_, rfl⟩, q⟩
theorem mt_all (hu : RUnits X) {t : Bool} {mt : Mt} (h : mtOk mt = true) : MtR X (mtI t mt) (rMtD X.K t mt) := by
  cases mt <;> cases t <;> first | exact mt_index_list hu | exact mt_index_tuple hu | exact mt_count_list hu | exact mt_count_tuple hu | (cases h; done)
/-- what the runner tells, told by data -/
theorem mth_ok {mt : Mt} {p : PV} {a : Addr} {xs ys : List V} {vs : List PV} {t : Bool} {l : List PV} {Q : VK} (ho : mtOk mt = true) (s : RelS Φ m S H) (e : seqOf S p = some l) (hs : SeqD Φ.K H a ys t) (rl : RelPs Φ m H l ys) (r : RelPs Φ m H vs xs) (h : PostE Φ W m H σ (mth mt p vs S) Q) : rMtD Φ.K t mt (.ref a) xs H Q := by
  have hq : SqB Φ.K H a ys t := by
    cases t with
    | false => exact hs
    | true => exact hs.1
  match vs, r, h with
  | [], r, h => exact False.elim h
  | _ :: _ :: _, r, h => exact False.elim h
  | [x], r, h =>
    obtain ⟨y, rfl, rx⟩ := rel1 r
    cases mt with
    | index =>
      obtain ⟨l', e', h⟩ := withO_ok h
      rw [e] at e'
      cases e'
      cases hz : (PV.shp deep (der S x) && PV.shps deep l) with
      | false =>
        rw [hz] at h
        exact False.elim h
      | true =>
        rw [hz] at h
        obtain ⟨z1, z2⟩ := and2 hz
        obtain ⟨k, ek, h⟩ := withO_ok (show PostE Φ W m H σ (withO (firstIx (der S x) l 0) fun k => .ok (.int k) S) Q from h)
        exact ⟨a, ys, y, _, _, k, rfl, rfl, hq, toDs_rel _ l ys z2 rl, der_rel s z1 rx, toDs_plain l, toD_plain _, Nat.le_trans (toD_depth _ _ z1) (by decide), firstIx_place z1 z2 ek, fin_int s h⟩
    | count =>
      obtain ⟨l', e', h⟩ := withO_ok h
      rw [e] at e'
      cases e'
      cases hz : (PV.shp deep (der S x) && PV.shps deep l) with
      | false =>
        rw [hz] at h
        exact False.elim h
      | true =>
        rw [hz] at h
        obtain ⟨z1, z2⟩ := and2 hz
        refine ⟨a, ys, y, _, _, countD (der S x) l, rfl, rfl, hq, toDs_rel _ l ys z2 rl, der_rel s z1 rx, toDs_plain l, toD_plain _, Nat.le_trans (toD_depth _ _ z1) (by decide), ?_, fin_int s h⟩
        show some _ = some _
        rw [countD_eq z1 z2]
    | _ => cases ho
theorem mth_none {mt : Mt} {p : PV} {vs : List PV} {Q : VK} (e : seqOf S p = none) (h : PostE Φ W m H σ (mth mt p vs S) Q) : False := by
  match vs, h with
  | [], h => exact h
  | _ :: _ :: _, h => exact h
  | [x], h =>
    cases mt with
    | index =>
      have h : PostE Φ W m H σ (withO (seqOf S p) fun l => if PV.shp deep (der S x) && PV.shps deep l then withO (firstIx (der S x) l 0) fun k => .ok (.int k) S else .no) Q := h
      rw [e] at h
      exact h
    | count =>
      have h : PostE Φ W m H σ (withO (seqOf S p) fun l => if PV.shp deep (der S x) && PV.shps deep l then .ok (.int (countD (der S x) l)) S else .no) Q := h
      rw [e] at h
      exact h
    | _ => exact h
theorem base_plain {o : Expr} (h : (match o with | .Call _ _ _ _ => false | _ => true) = true) (nm : Str) (env : PySem.Env) : attributeBase o nm env (eval o env) = eval o env := by
  cases o <;> first | rfl | cases h
theorem few1 (hp : plainE e = true) (env : PySem.Env) : ((backTo cpos (starEach [e] env)).all (fun x => !x.1) && (backToKw cpos (keywordEach [] env)).all (fun x => x.1.isSome)
      && decide (([e] : List Expr).length + ([] : List Keyword).length + (if ([] : List Keyword).isEmpty then 0 else 1) < 30)) = true := by
  rw [star_plain hp]
  rfl
theorem slot_all {t : Bool} {mt : Mt} (h : mtOk mt = true) : Slot (if t then "tuple" else "list") (Str.ofString (mtN mt)) (mtI t mt) ∧ typeOf (.builtin (mtI t mt)) = pure (.type "method_descriptor") ∧ PlainAttrs (if t then "tuple" else "list") := by
  cases mt <;> cases t <;> first | exact ⟨PySem.F.slot_list_index, PySem.F.type_list_index, PySem.F.plainAttrs_list⟩ | exact ⟨PySem.F.slot_list_count, PySem.F.type_list_count, PySem.F.plainAttrs_list⟩ | exact ⟨PySem.F.slot_tuple_index, PySem.F.type_tuple_index, PySem.F.plainAttrs_tuple⟩ | exact ⟨PySem.F.slot_tuple_count, PySem.F.type_tuple_count, PySem.F.plainAttrs_tuple⟩ | (cases h; done)
theorem pe_mthR {mt : Mt} {nm : Str} {bx : Bool} (hn : nm = Str.ofString (mtN mt)) (hok : mtOk mt = true) (hK : X.K = Φ.K) (hu : RUnits X) (hbase : attributeBase o nm X.env (eval o X.env) = eval o X.env) (hline : (apos.endLine == cpos.line) = true) (hp : plainE e = true)
    (ho : PE X o (tR Φ W f)) (ha : PA X [e] (tRA Φ W g)) :
    PE X (.Call (.Attribute o nm apos) [e] [] cpos) (tR Φ W fun ρ S => (f ρ S).bind fun v S1 => withO (seqOf S1 v) fun _ => (g ρ S1).bind fun r S2 => withL r fun vs => mth mt v vs S2) := by
  subst hn
  refine ⟨fun pins s σ H Q I ⟨m, ρ, S, hs, he, h⟩ => ?_⟩
  have key := chain (Q1 := fun x H1 => ∃ a ys t, x = .ref a ∧ SeqD X.K H1 a ys t ∧ tRA Φ W g σ H1 fun xs H2 => rMtD X.K t mt (.ref a) xs H2 Q) hs he h (fun p S1 m1 H1 x e1 s1 E1 r1 h1 => by
    obtain ⟨l, el, h1⟩ := withO_ok h1
    obtain ⟨a, ys, ex, hd, rl⟩ := seqD_of s1 r1 el
    refine ⟨a, ys, isT p, ex, by rw [hK]; exact hd, ?_⟩
    refine chainA s1 E1 h1 fun vs S2 m2 H2 xs e2 s2 E2 r2 h2 => ?_
    have r3 := r1.ext e2
    cases el2 : seqOf S2 p with
    | none => exact False.elim (mth_none el2 h2)
    | some l2 =>
      obtain ⟨a2, ys2, ex2, hd2, rl2⟩ := seqD_of s2 r3 el2
      rw [ex] at ex2
      cases ex2
      rw [hK]
      exact mth_ok hok s2 el2 hd2 rl2 r2 h2)
  refine wpAny_Call_method_late hbase (few1 hp X.env) hline rfl (thn (ho.run pins s σ H _ I key) fun v s1 ⟨x, H1, I1, r1, a, ys, t, ex, hd, q1⟩ => ?_)
  subst ex
  cases r1
  obtain ⟨h1, h2⟩ := seqD_is I1 hd
  obtain ⟨z1, z2, z3⟩ := slot_all (t := t) hok
  refine ⟨_, _, z3, z1, z2, h1, h2, ?_⟩
  have hA :=
        ha.run cpos pins s1 σ H1 _ I1 q1
  rw [star_plain hp] at hA ⊢
  refine Calls.callWith_builtin (by rfl) (Calls.evalArgs_plain ?_)
  exact thn hA fun us s2 ⟨vs, H2, I2, r2, q2⟩ => mt_all hu hok pins s2 σ H2 (V.ref a) vs _ us Q I2 rfl r2 q2
end
end Rn
set_option maxHeartbeats 1000007
/-! The runner is right: what is walked. -/
namespace Rn
open L2 PySem PyProof.Rows PySem.Spec


section
variable {X : Cx} {Φ : Fm} {W : WX} {m m1 : Mp} {H H1 : Hp} {S : Sto} {ρ : Env} {σ : L2.St} {pos p2 apos cpos : Pos} {f g : Run} {tg o e : Expr} {es : List Expr} {t : Bool}
/-- a value, or a tuple that was just laid for a target of names -/
def RelT (Φ : Fm) (m : Mp) (H : Hp) (t : Bool) (p : PV) (x : V) : Prop := RelP Φ m H p x ∨ (t = true ∧ ∃ T xs l, p = .tup l ∧ x = .ref T ∧ H T = some (.tup xs) ∧ RelPs Φ m H l xs)
/-- the iterator J yields the items l, one by one, as long as the source stays -/
def WalkR (Φ : Fm) (m : Mp) (H : Hp) (t : Bool) (b : Option Nat) (l : List PV) (J : It) : Prop := ∀ m2 S2 H2, Ext m H m2 H2 → RelS Φ m2 S2 H2 → stays b l S2 = true → ∀ i,
  (i < l.length → J.go i H2) ∧ (l.length = i → J.stop i H2) ∧ ∀ p x H3, l[i]? = some p → J.yld i H2 x H3 → Ext m2 H2 m2 H3 ∧ RelS Φ m2 S2 H3 ∧ RelT Φ m2 H3 t p x
def Fm.bo (Φ : Fm) (B : Addr → Prop) : Fm := { Φ with Bo := B }
/-- B is Bo and places that are empty -/
def BoIn (Φ : Fm) (H : Hp) (B : Addr → Prop) : Prop := ∀ a, B a → Φ.Bo a ∨ H a = none
theorem Free.bo {B : Addr → Prop} {a : Addr} {u : HO} (h : BoIn Φ H B) (f : Free Φ m a) (e : H a = some u) : Free (Φ.bo B) m a := by
  refine ⟨fun b => ?_, f.2⟩
  rcases h a b with z | z
  · exact f.1 z
  · rw [e] at z
    cases z
theorem Rd.some {a : Addr} {u : HO} (h : Rd H a u) : ∃ w, H a = some w := by
  rcases h with h | ⟨o, h⟩
  · exact ⟨_, h⟩
  · exact ⟨_, h⟩
mutual
theorem RelP.bo {B : Addr → Prop} (hb : BoIn Φ H B) : ∀ {p : PV} {v : V}, RelP Φ m H p v → RelP (Φ.bo B) m H p v
  | .non, _, h => by simpa only [RelP] using h
  | .bl _, _, h => by simpa only [RelP] using h
  | .int _, _, h => by simpa only [RelP] using h
  | .str _, _, h => by simpa only [RelP] using h
  | .fn _, _, h => by
    simp only [RelP] at h ⊢
    exact h
  | .ty _, _, h => by simpa only [RelP] using h
  | .xc _ _, _, h => by
    simp only [RelP] at h ⊢
    exact h
  | .box n, v, h => by simpa only [RelP] using h
  | .tup l, v, h => by
    simp only [RelP] at h ⊢
    obtain ⟨a, xs, h1, h2, h3⟩ := h
    refine ⟨a, xs, h1, ?_, RelPs.bo hb h3⟩
    rcases h2 with h2 | ⟨⟨o, h2, c, d⟩, f⟩
    · exact .inl h2
    · exact .inr ⟨⟨o, h2, c, d⟩, f.bo hb h2⟩
  | .lst l, v, h => by
    simp only [RelP] at h ⊢
    obtain ⟨a, xs, h1, h2, h3⟩ := h
    exact ⟨a, xs, h1, ⟨h2.1, Free.bo hb h2.2 h2.1⟩, RelPs.bo hb h3⟩
  | .klst l, v, h => by
    simp only [RelP] at h ⊢
    obtain ⟨a, xs, h1, h2, h3⟩ := h
    refine ⟨a, xs, h1, ?_, RelPs.bo hb h3⟩
    rcases h2 with h2 | ⟨h2, f⟩
    · exact .inl h2
    · obtain ⟨w, hw⟩ := Rd.some h2
      exact .inr ⟨h2, f.bo hb hw⟩
theorem RelPs.bo {B : Addr → Prop} (hb : BoIn Φ H B) : ∀ {ps : List PV} {vs : List V}, RelPs Φ m H ps vs → RelPs (Φ.bo B) m H ps vs
  | [], _, h => by simpa only [RelPs] using h
  | p :: ps, vs, h => by
    simp only [RelPs] at h ⊢
    obtain ⟨v, vr, h1, h2, h3⟩ := h
    exact ⟨v, vr, h1, RelP.bo hb h2, RelPs.bo hb h3⟩
end
def PostI (Φ : Fm) (W : WX) (t : Bool) (m : Mp) (H : Hp) (σ : L2.St) (r : R PV) (R : It → Hp → Prop) : Prop := match r with
  | .ok p S => ∃ l, items S p = some l ∧ ∀ m' H' J, Ext m H m' H' → RelS Φ m' S H' → (∀ B, BoIn Φ H' B → WalkR (Φ.bo B) m' H' t (boxOf p) l J) → R J H'
  | .ex c S => ∀ cls d m' H', Ext m H m' H' → RelS Φ m' S H' → RelX Φ m' H' c cls d → W cls d σ H'
  | .no => False
def tRI (Φ : Fm) (W : WX) (t : Bool) (f : Run) : TI := fun σ H R => ∃ m ρ S, RelS Φ m S H ∧ RelE Φ m H ρ σ ∧ PostI Φ W t m H σ (f ρ S) R
theorem PI.of {it : Expr} {w w' : TI} (h : PI X tg it w) (k : ∀ σ H R, w' σ H R → w σ H R) : PI X tg it w' := ⟨fun pins s σ H R I q => h.run pins s σ H R I (k σ H R q)⟩

theorem walk_list {a : Addr} {xs : List V} {l : List PV} (h : ∀ m2 H2, Ext m H m2 H2 → SqL Φ.K H2 a xs ∧ RelPs Φ m2 H2 l xs) : WalkR Φ m H t none l (Itl Φ.K a) := fun m2 S2 H2 e s _ i => by
  obtain ⟨h1, h2⟩ := h m2 H2 e
  have hl := h2.length
  refine ⟨fun hi => ⟨xs, xs[i]'(by omega), h1, List.getElem?_eq_getElem (by omega)⟩, fun hi => ⟨xs, h1, by omega⟩, fun p x H3 ep y => ?_⟩
  obtain ⟨e3, y⟩ := y
  subst e3
  obtain ⟨v, ev, rv⟩ := h2.get ep
  have := y xs h1
  rw [ev] at this
  cases this
  exact ⟨Ext.refl, s, .inl rv⟩

theorem walk_tup {a : Addr} {xs : List V} {l : List PV} (h : ∀ m2 H2, Ext m H m2 H2 → SqT Φ.K H2 a xs ∧ RelPs Φ m2 H2 l xs) : WalkR Φ m H t none l (Itt Φ.K a) := fun m2 S2 H2 e s _ i => by
  obtain ⟨h1, h2⟩ := h m2 H2 e
  have hl := h2.length
  refine ⟨fun hi => ⟨xs, xs[i]'(by omega), h1, List.getElem?_eq_getElem (by omega)⟩, fun hi => ⟨xs, h1, by omega⟩, fun p x H3 ep y => ?_⟩
  obtain ⟨e3, y⟩ := y
  subst e3
  obtain ⟨v, ev, rv⟩ := h2.get ep
  have := y xs h1
  rw [ev] at this
  cases this
  exact ⟨Ext.refl, s, .inl rv⟩
theorem walk_box {n : Nat} {a : Addr} {l : List PV} (hm : m[n]? = some (some a)) : WalkR Φ m H t (some n) l (Itl Φ.K a) := fun m2 S2 H2 e s st i => by
  have st : (match getB S2 n with | some l' => PV.sames l l' | none => false) = true := st
  cases eg : getB S2 n with
  | none =>
    rw [eg] at st
    cases st
  | some l' =>
    rw [eg] at st
    have el : l = l' := sames_eq l l' st
    subst el
    obtain ⟨a', vs, q1, q2, q3, _⟩ := s.box eg
    have ea : a' = a := by
      rcases e.ix n _ hm with z | z
      · rw [q1] at z
        cases z
        rfl
      · rw [q1] at z
        cases z
    subst ea
    have hl := q3.length
    have h1 : SqL Φ.K H2 a' vs := SqL.of q2
    refine ⟨fun hi => ⟨vs, vs[i]'(by omega), h1, List.getElem?_eq_getElem (by omega)⟩, fun hi => ⟨vs, h1, by omega⟩, fun p x H3 ep y => ?_⟩
    obtain ⟨e3, y⟩ := y
    subst e3
    obtain ⟨v, ev, rv⟩ := q3.get ep
    have := y vs h1
    rw [ev] at this
    cases this
    exact ⟨Ext.refl, s, .inl rv⟩
theorem walk_rng {lo : Int} : ∀ {n : Nat}, WalkR Φ m H t none (range1 lo n) (Itr lo n) := fun {n} m2 S2 H2 e s _ i => by
  have len : ∀ (n : Nat) (lo : Int), (range1 lo n).length = n := fun n => by
    induction n with
    | zero => intro lo; rfl
    | succ n ih => intro lo; show (range1 (lo + 1) n).length + 1 = n + 1; rw [ih]
  have get : ∀ (n : Nat) (lo : Int) (i : Nat), i < n → (range1 lo n)[i]? = some (.int (lo + i)) := fun n => by
    induction n with
    | zero => intro lo i hi; exact absurd hi (Nat.not_lt_zero _)
    | succ n ih =>
      intro lo i hi
      cases i with
      | zero =>
        show some (PV.int lo) = _
        rw [Int.natCast_zero, Int.add_zero]
      | succ i =>
        show (range1 (lo + 1) n)[i]? = _
        rw [ih (lo + 1) i (by omega)]
        congr 2
        omega
  refine ⟨fun hi => by rw [len] at hi; exact hi, fun hi => by rw [len] at hi; exact Nat.le_of_eq hi, fun p x H3 ep y => ?_⟩
  obtain ⟨e3, ex⟩ := y
  subst e3 ex
  have hi : i < n := by
    have := (List.getElem?_eq_some_iff.mp ep).1
    rw [len] at this
    exact this
  rw [get n lo i hi] at ep
  cases ep
  exact ⟨Ext.refl, s, .inl (by simp only [RelP])⟩
theorem walk_str {z : Str} : WalkR Φ m H t none (signs z) (Its z) := fun m2 S2 H2 e s _ i => by
  have len : (signs z).length = z.cps.size := by
    unfold signs
    rw [List.length_map]
    rw [Array.length_toList]
  refine ⟨fun hi => by rw [len] at hi; exact hi, fun hi => by rw [len] at hi; exact Nat.le_of_eq hi, fun p x H3 ep y => ?_⟩
  obtain ⟨e3, c, hc, ex⟩ := y
  subst e3 ex
  unfold signs at ep
  rw [List.getElem?_map, Array.getElem?_toList, hc] at ep
  cases ep
  exact ⟨Ext.refl, s, .inl (by simp only [RelP]; exact ⟨trivial, (by decide : 1 ≤ lim)⟩)⟩

/-- the iterator of a value -/
theorem pi_valR {it : Expr} (hK : X.K = Φ.K) (h : PE X it (tR Φ W f)) : PI X tg it (tRI Φ W t f) := by
  refine ⟨fun pins s σ H R I ⟨m, ρ, S, hs, he, hp⟩ => ?_⟩
  have key : tR Φ W f σ H (fun x H1 => ∃ p S1 m1 l, RelS Φ m1 S1 H1 ∧ RelP Φ m1 H1 p x ∧ items S1 p = some l ∧ ∀ J, (∀ B, BoIn Φ H1 B → WalkR (Φ.bo B) m1 H1 t (boxOf p) l J) → R J H1) := by
    refine ⟨m, ρ, S, hs, he, ?_⟩
    cases hr : f ρ S with
    | no =>
      rw [hr] at hp
      exact hp
    | ex c S1 =>
      rw [hr] at hp
      exact hp
    | ok p S1 =>
      rw [hr] at hp
      obtain ⟨l, el, k⟩ := hp
      exact fun m1 H1 v e1 s1 r1 => ⟨p, S1, m1, l, s1, r1, el, fun J wj => k m1 H1 J e1 s1 wj⟩
  refine thn (h.run pins s σ H _ I key) fun v s1 ⟨x, H1, I1, rx, p, S1, m1, l, hs1, rp, el, k⟩ => ?_
  have lists : ∀ {a : Addr} {xs : List V}, x = .ref a → SqL X.K H1 a xs → R (Itl X.K a) H1 → wpAny (model X.prog X.w) X.A (pyIter v) (PIE X pins σ tg R) X.xe s1 := fun {a xs} ex hq q => by
    subst ex
    cases rx
    obtain ⟨its, rv, pl, hz⟩ := I1.list hq
    refine wpAny_pyIter_list pl.isList ?_
    refine ⟨s1.heap.objs.size, [s1.heap.objs.size], _, _, H1, rfl, I1.kept (t' := s1.toks) fun b o e =>
          Heap.get?_push_of_some _ e, turn_list a _, ⟨_, Heap.get?_push_size _ rfl, rfl, rfl⟩, fun b hb => ?_, q⟩
    have e : b = s1.heap.objs.size :=
          by simpa using hb
    subst e
    refine I1.fpOk (Nat.le_refl _) (I1.hok.fresh (Nat.le_refl _))
  cases p with
  | tup z =>
    cases el
    simp only [RelP] at rp
    obtain ⟨a, xs, rfl, h1, rz⟩ := rp
    cases rx
    have hq : SqT X.K H1 a xs := by rw [hK]; exact h1.sq
    have q := k (Itt Φ.K a) fun B hB => walk_tup (Φ := Φ.bo B) fun m2 H2 e2 => ⟨(h1.ext e2).sq, (rz.bo hB).ext e2⟩
    rw [← hK] at q
    obtain ⟨its, rv, pl, hz⟩ := I1.tuple hq
    refine wpAny_pyIter_tuple (isTuple_of pl) ?_
    refine ⟨s1.heap.objs.size, [s1.heap.objs.size], _, _, H1, rfl, I1.kept (t' := s1.toks) fun b o e =>
          Heap.get?_push_of_some _ e, turn_tuple a _, ⟨_, Heap.get?_push_size _ rfl, rfl, rfl⟩, fun b hb => ?_, q⟩
    have e : b = s1.heap.objs.size :=
          by simpa using hb
    subst e
    refine I1.fpOk (Nat.le_refl _) (I1.hok.fresh (Nat.le_refl _))
  | lst z =>
    cases el
    simp only [RelP] at rp
    obtain ⟨a, xs, ex, h1, rz⟩ := rp
    have q := k (Itl Φ.K a) fun B hB => walk_list (Φ := Φ.bo B) fun m2 H2 e2 => ⟨(h1.ext e2).sq, (rz.bo hB).ext e2⟩
    rw [← hK] at q
    exact lists ex (by rw [hK]; exact h1.sq) q
  | klst z =>
    cases el
    simp only [RelP] at rp
    obtain ⟨a, xs, ex, h1, rz⟩ := rp
    have q := k (Itl Φ.K a) fun B hB => walk_list (Φ := Φ.bo B) fun m2 H2 e2 => ⟨(h1.ext e2).sq, (rz.bo hB).ext e2⟩
    rw [← hK] at q
    exact lists ex (by rw [hK]; exact h1.sq) q
  | box n =>
    obtain ⟨a, xs, q1, q2, q3, _⟩ := hs1.box (n := n) el
    simp only [RelP] at rp
    obtain ⟨o, r1, r2⟩ := rp
    rw [q1] at r1
    cases r1
    have q := k (Itl Φ.K a) fun B hB => walk_box (Φ := Φ.bo B) q1
    rw [← hK] at q
    exact lists (r2 a rfl) (SqL.of q2) q
  | str z =>
    cases el
    simp only [RelP] at rp
    obtain ⟨rfl, hz⟩ := rp
    have q := k (Its z) fun B hB => walk_str
    obtain ⟨t, rfl⟩ := rx
    cases ha : z.cps.all (· < 128)
    · exact wpAny_pyIter_wide ha (pi_one (tk := s1.toks) I1 _ (turn_str _ z t "str_iterator" (.inr rfl)) ⟨_, Heap.get?_push_size _ rfl, rfl, rfl⟩ q)
    · exact wpAny_pyIter_ascii ha (pi_one (tk := s1.toks) I1 _ (turn_str _ z t "str_ascii_iterator" (.inl rfl)) ⟨_, Heap.get?_push_size _ rfl, rfl, rfl⟩ q)
  | non => cases el
  | bl b => cases el
  | int i => cases el
  | fn f => cases el
  | ty t => cases el
  | xc c l => cases el
/-- range(..) -/
theorem range_ok {vs : List PV} {l : List PV} (h : rangeOf vs = some l) : (∃ j : Int, vs = [.int j] ∧ -(2 ^ 62) ≤ j ∧ j < 2 ^ 62 ∧ l = range1 0 j.toNat) ∨ ∃ i j : Int, vs = [.int i, .int j] ∧ (-(2 ^ 62) ≤ i ∧ i < 2 ^ 62 ∧ -(2 ^ 62) ≤ j ∧ j < 2 ^ 62) ∧ l = range1 i (j - i).toNat := by
  unfold rangeOf at h
  split at h
  · rename_i n
    split at h
    · rename_i z
      obtain ⟨z1, z2⟩ := and2 z
      have := ilt_true z1
      have := ilt_true z2
      cases h
      exact .inl ⟨n, rfl, by omega, by omega, rfl⟩
    · cases h
  · rename_i a b
    split at h
    · rename_i z
      obtain ⟨z, z4⟩ := and2 z
      obtain ⟨z, z3⟩ := and2 z
      obtain ⟨z1, z2⟩ := and2 z
      have := ilt_true z1
      have := ilt_true z2
      have := ilt_true z3
      have := ilt_true z4
      cases h
      exact .inr ⟨a, b, rfl, ⟨by omega, by omega, by omega, by omega⟩, rfl⟩
    · cases h
  · cases h
theorem rng_key {ta : TA} (hta : ta = tRA Φ W f) {R : It → Hp → Prop} (s : RelS Φ m S H) (e : RelE Φ m H ρ σ) (h : PostI Φ W t m H σ ((f ρ S).bind fun r S1 => withL r fun vs => withO (rangeOf vs) fun l => .ok (.lst l) S1) R) :
    ta σ H fun vs H1 => (∃ j : Int, vs = [.int j] ∧ -(2 ^ 62) ≤ j ∧ j < 2 ^ 62 ∧ R (Itr 0 j.toNat) H1) ∨ ∃ i j : Int, vs = [.int i, .int j] ∧ (-(2 ^ 62) ≤ i ∧ i < 2 ^ 62 ∧ -(2 ^ 62) ≤ j ∧ j < 2 ^ 62) ∧ R (Itr i (j - i).toNat) H1 := by
  subst hta
  refine ⟨m, ρ, S, s, e, ?_⟩
  cases hr : f ρ S with
  | no =>
    rw [hr] at h
    exact h
  | ex c S1 =>
    rw [hr] at h
    exact h
  | ok p S1 =>
    rw [hr] at h
    have h : PostI Φ W t m H σ (withL p fun vs => withO (rangeOf vs) fun l => .ok (.lst l) S1) R := h
    cases p with
    | lst vs =>
      have h : PostI Φ W t m H σ (withO (rangeOf vs) fun l => .ok (.lst l) S1) R := h
      cases er : rangeOf vs with
      | none =>
        rw [er] at h
        exact False.elim h
      | some l =>
        rw [er] at h
        obtain ⟨l', el, k⟩ := h
        cases el
        refine ⟨vs, rfl, fun m1 H1 ws e1 s1 r1 => ?_⟩
        rcases range_ok er with ⟨j, rfl, h1, h2, rfl⟩ | ⟨i, j, rfl, h1, rfl⟩
        · obtain ⟨x, rfl, rx⟩ := rel1 r1
          simp only [RelP] at rx
          subst rx
          exact .inl ⟨j, rfl, h1, h2, k m1 H1 _ e1 s1 fun B hB => walk_rng⟩
        · obtain ⟨x, y, rfl, rx, ry⟩ := rel2 r1
          simp only [RelP] at rx ry
          subst rx ry
          exact .inr ⟨i, j, rfl, h1, k m1 H1 _ e1 s1 fun B hB => walk_rng⟩
    | _ => exact False.elim h
theorem pi_rngR (hg : Gl X "range") (hm : X.mg "range" = none) (hp : plainE e = true) (hps : plainEs es = true) (ha : PA X (e :: es) (tRA Φ W f)) :
    PI X tg (.Call (.Name "range" p2) (e :: es) [] pos) (tRI Φ W t fun ρ S => (f ρ S).bind fun r S1 => withL r fun vs => withO (rangeOf vs) fun l => .ok (.lst l) S1) := by
  refine ⟨fun pins s σ H R I ⟨m, ρ, S, hs, he, h⟩ => ?_⟩
  have key := rng_key rfl hs he h
  have h1 := star_plain hp es X.env
  have h2 := stars_plain hps pos X.env
  refine Call_ (ld_blt I hg hm boot_range (PyProof.Rows.callWith_type1 (thn (ha.run pos pins s σ H _ I key) fun us s1 ⟨vs, H1, I1, r1, q1⟩ => ?_) h1 h2))
  rcases q1 with ⟨j, e, q1, q2, q⟩ | ⟨i, j, e, ⟨q1, q2, q3, q4⟩, q⟩
  · subst e
    cases r1 with
    | cons r rr =>
      cases rr
      obtain ⟨t, rfl⟩ := r
      refine call_range_1 (range_it I1 (by omega) (by omega) q1 q2 (by simpa using q))
  · subst e
    cases r1 with
    | cons r rr =>
      cases rr with
      | cons r' rr =>
        cases rr
        obtain ⟨t, rfl⟩ := r
        obtain ⟨t', rfl⟩ := r'
        refine call_range_2 (range_it I1 q1 q2 q3 q4 q)

/-! ### targets -/
theorem PG.or {tg : Expr} {g g' : TG} (h : PG X tg g) (h' : PG X tg g') : PG X tg (fun v σ H Q => g v σ H Q ∨ g' v σ H Q) := ⟨fun pins s σ H v u Q I r q => by
  rcases q with q | q
  · exact h.run pins s σ H v u Q I r q
  · exact h'.run pins s σ H v u Q I r q⟩
theorem PG.of {tg : Expr} {g g' : TG} (h : PG X tg g) (k : ∀ v σ H Q, g' v σ H Q → g v σ H Q) : PG X tg g' := ⟨fun pins s σ H v u Q I r q => h.run pins s σ H v u Q I r (k v σ H Q q)⟩
theorem PGs.of {ts : List Expr} {g g' : TGs} (h : PGs X ts g) (k : ∀ v σ H Q, g' v σ H Q → g v σ H Q) : PGs X ts g' := ⟨fun pins s σ H v u Q I r q => h.run pins s σ H v u Q I r (k v σ H Q q)⟩
/-- the slots of a target -/
def tgLen : Tg → Option Nat
  | .nil => some 0
  | .cons _ t => match tgLen t with
    | some n => some (n + 1)
    | none => none
  | _ => none
def tgNs : Tg → List Nat
  | .nm i => [i]
  | .nil => []
  | .cons h t => tgNs h ++ tgNs t
  | .tup l => tgNs l
/-- slots of vs alone are other -/
def SameOut (vs : List Nat) (σ σ' : L2.St) : Prop := σ'.length = σ.length ∧ ∀ i, i ∉ vs → σ'[i]? = σ[i]?
/-- a target gets the value p: then the names are as the runner tells -/
def gR (Φ : Fm) (tup : Bool) (t : Tg) : TG := fun v σ H Q => ∃ m ρ S p ρ1, RelS Φ m S H ∧ RelE Φ m H ρ σ ∧ RelT Φ m H tup p v ∧ store S t p ρ = some ρ1 ∧ ∀ σ1, RelE Φ m H ρ1 σ1 → SameOut (tgNs t) σ σ1 → Q σ1 H
def gRs (Φ : Fm) (t : Tg) : TGs := fun vs σ H Q => ∃ m ρ S ps ρ1, RelS Φ m S H ∧ RelE Φ m H ρ σ ∧ RelPs Φ m H ps vs ∧ stores S t ps ρ = some ρ1 ∧ ∀ σ1, RelE Φ m H ρ1 σ1 → SameOut (tgNs t) σ σ1 → Q σ1 H
theorem RelE.set {i : Nat} {p : PV} {v : V} (e : RelE Φ m H ρ σ) (r : RelP Φ m H p v) : RelE Φ m H (ρ.set i (some p)) (σ.set i (some v)) := ⟨by rw [List.length_set, List.length_set, e.1], fun j q hq => by
  by_cases hj : i = j
  · subst hj
    have hl : i < ρ.length := by
      have := (List.getElem?_eq_some_iff.mp hq).1
      rw [List.length_set] at this
      exact this
    rw [List.getElem?_set_self hl] at hq
    cases hq
    exact ⟨v, List.getElem?_set_self (by rw [← e.1]; exact hl), r⟩
  · rw [List.getElem?_set_ne hj] at hq
    obtain ⟨w, h1, h2⟩ := e.2 j q hq
    exact ⟨w, by rw [List.getElem?_set_ne hj]; exact h1, h2⟩⟩
theorem SameOut.set {i : Nat} {x : Option V} : SameOut [i] σ (σ.set i x) := ⟨List.length_set, fun j hj => List.getElem?_set_ne (fun e => hj (by rw [e]; exact List.mem_singleton.mpr rfl))⟩
theorem SameOut.trans {vs ws : List Nat} {σ σ1 σ2 : L2.St} (a : SameOut vs σ σ1) (b : SameOut ws σ1 σ2) : SameOut (vs ++ ws) σ σ2 := ⟨b.1.trans a.1, fun i hi => (b.2 i fun z => hi (List.mem_append_right _ z)).trans (a.2 i fun z => hi (List.mem_append_left _ z))⟩
theorem pg_nmR {i : Nat} {x : Str} (hN : X.N.Nodup) (hi : X.N[i]? = some x) (hx : Loc X.env.scope x) (hf : X.fn x = true ∨ X.env.scope.names.lookup x = some .local) : PG X (.Name x pos) (gR Φ false (.nm i)) :=
  PG.of (pg_name hN hi hx hf) fun v σ H Q ⟨m, ρ, S, p, ρ1, s, e, r, hs, k⟩ => by
    have hs : (if Nat.blt i ρ.length then some (ρ.set i (some p)) else none) = some ρ1 := hs
    split at hs
    · cases hs
      rcases r with r | ⟨z, _⟩
      · exact k _ (e.set r) SameOut.set
      · cases z
    · cases hs
theorem pgs_nilR : PGs X [] (gRs Φ .nil) := PGs.of pgs_nil fun v σ H Q ⟨m, ρ, S, ps, ρ1, s, e, r, hs, k⟩ => by
  cases ps with
  | nil =>
    have hs : some ρ = some ρ1 := hs
    cases hs
    simp only [RelPs] at r
    exact ⟨r, k σ e ⟨rfl, fun _ _ => rfl⟩⟩
  | cons p ps => cases (show (none : Option Env) = some ρ1 from hs)
theorem pgs_consR {h t : Tg} (h1 : PG X e (gR Φ false h)) (h2 : PGs X es (gRs Φ t)) (hs : (assignEach (e :: es) X.env).map (·.2) = assign e X.env :: (assignEach es X.env).map (·.2)) : PGs X (e :: es) (gRs Φ (.cons h t)) :=
  PGs.of (pgs_cons h1 h2 hs) fun v σ H Q ⟨m, ρ, S, ps, ρ1, s, e, r, hs, k⟩ => by
    cases ps with
    | nil => cases (show (none : Option Env) = some ρ1 from hs)
    | cons p ps =>
      simp only [RelPs] at r
      obtain ⟨v, vr, rfl, r1, r2⟩ := r
      have hs : (match store S h p ρ with | some ρ' => stores S t ps ρ' | none => none) = some ρ1 := hs
      cases e1 : store S h p ρ with
      | none =>
        rw [e1] at hs
        cases hs
      | some ρ' =>
        rw [e1] at hs
        exact ⟨v, vr, rfl, m, ρ, S, p, ρ', s, e, .inl r1, e1, fun σ1 re so => ⟨m, ρ', S, ps, ρ1, s, re, r2, hs, fun σ2 re2 so2 => k σ2 re2 (so.trans so2)⟩⟩
theorem pg_tupR {tup : Bool} {l : Tg} {j n : Nat} (hK : X.K = Φ.K) (hc : X.calm = true) (h : PGs X es (gRs Φ l)) (hn : (assignEach es X.env).length = n) (hst : (assignEach es X.env).findIdx? (·.1) = none)
    (hl : ∀ S ps ρ ρ1, stores S l ps ρ = some ρ1 → ps.length = n) : PG X (.Tuple es j pos) (gR Φ tup (.tup l)) :=
  PG.of (PG.or (pg_tup hc h hn hst) (pg_unl hc h hn hst)) fun v σ H Q ⟨m, ρ, S, p, ρ1, s, e, r, hs, k⟩ => by
    rw [hK]
    rcases r with r | ⟨_, T, xs, z, rfl, rfl, hT, r⟩
    · cases p with
      | tup vs =>
        have hs : stores S l vs ρ = some ρ1 := hs
        simp only [RelP] at r
        obtain ⟨a, xs, rfl, h1, r⟩ := r
        exact .inl ⟨a, xs, rfl, h1.sq, by rw [← r.length]; exact hl _ _ _ _ hs, m, ρ, S, vs, ρ1, s, e, r, hs, k⟩
      | lst vs =>
        have hs : stores S l vs ρ = some ρ1 := hs
        simp only [RelP] at r
        obtain ⟨a, xs, rfl, h1, r⟩ := r
        exact .inr ⟨a, xs, rfl, h1.sq, by rw [← r.length]; exact hl _ _ _ _ hs, m, ρ, S, vs, ρ1, s, e, r, hs, k⟩
      | box n =>
        have hs : (match getB S n with | some vs => stores S l vs ρ | none => none) = some ρ1 := hs
        cases eb : getB S n with
        | none =>
          rw [eb] at hs
          cases hs
        | some vs =>
          rw [eb] at hs
          obtain ⟨a, xs, rfl, h1, r⟩ := lst_ok s r (l := vs) eb
          exact .inr ⟨a, xs, rfl, SqL.of h1, by rw [← r.length]; exact hl _ _ _ _ hs, m, ρ, S, vs, ρ1, s, e, r, hs, k⟩
      | _ => cases hs
    · have hs : stores S l z ρ = some ρ1 := hs
      exact .inl ⟨T, xs, rfl, .inl (.inl hT), by rw [← r.length]; exact hl _ _ _ _ hs, m, ρ, S, z, ρ1, s, e, r, hs, k⟩
theorem stores_len : ∀ {l : Tg} {ps : List PV} {S : Sto} {ρ ρ1 : Env} {k : Nat}, tgLen l = some k → stores S l ps ρ = some ρ1 → ps.length = k
  | .nil, ps, S, ρ, ρ1, k, h, hs => by
    cases h
    cases ps with
    | nil => rfl
    | cons p ps => cases (show (none : Option Env) = some ρ1 from hs)
  | .cons a t, ps, S, ρ, ρ1, k, h, hs => by
    cases ps with
    | nil => cases (show (none : Option Env) = some ρ1 from hs)
    | cons p ps =>
      have h : (match tgLen t with | some n => some (n + 1) | none => none) = some k := h
      cases et : tgLen t with
      | none =>
        rw [et] at h
        cases h
      | some n =>
        rw [et] at h
        cases h
        have hs : (match store S a p ρ with | some ρ' => stores S t ps ρ' | none => none) = some ρ1 := hs
        cases e1 : store S a p ρ with
        | none =>
          rw [e1] at hs
          cases hs
        | some ρ' =>
          rw [e1] at hs
          rw [List.length_cons, stores_len et hs]
  | .nm i, ps, S, ρ, ρ1, k, h, hs => by cases h
  | .tup l, ps, S, ρ, ρ1, k, h, hs => by cases h
end
end Rn
set_option maxHeartbeats 1000007
/-! The runner is right: comprehensions. -/
namespace Rn
open L2 PySem PyProof.Rows PySem.Spec

section
variable {X : Cx} {Φ : Fm} {W : WX} {m m1 : Mp} {H H1 : Hp} {S : Sto} {ρ : Env} {σ : L2.St} {pos p2 apos cpos : Pos} {f g : Run} {tg o e : Expr} {es : List Expr} {t : Bool} {B : Addr → Prop} {D : Addr}
/-! fewer outer boxes -/
mutual
theorem RelP.less (hb : ∀ a, Φ.Bo a → B a) : ∀ {p : PV} {v : V}, RelP (Φ.bo B) m H p v → RelP Φ m H p v
  | .non, _, h => by simpa only [RelP] using h
  | .bl _, _, h => by simpa only [RelP] using h
  | .int _, _, h => by simpa only [RelP] using h
  | .str _, _, h => by simpa only [RelP] using h
  | .fn _, _, h => by
    simp only [RelP] at h ⊢
    exact h
  | .ty _, _, h => by simpa only [RelP] using h
  | .xc _ _, _, h => by
    simp only [RelP] at h ⊢
    exact h
  | .box n, v, h => by simpa only [RelP] using h
  | .tup l, v, h => by
    simp only [RelP] at h ⊢
    obtain ⟨a, xs, h1, h2, h3⟩ := h
    refine ⟨a, xs, h1, ?_, RelPs.less hb h3⟩
    rcases h2 with h2 | ⟨h2, f1, f2⟩
    · exact .inl h2
    · exact .inr ⟨h2, fun z => f1 (hb a z), f2⟩
  | .lst l, v, h => by
    simp only [RelP] at h ⊢
    obtain ⟨a, xs, h1, h2, h3⟩ := h
    exact ⟨a, xs, h1, ⟨h2.1, fun z => h2.2.1 (hb a z), h2.2.2⟩, RelPs.less hb h3⟩
  | .klst l, v, h => by
    simp only [RelP] at h ⊢
    obtain ⟨a, xs, h1, h2, h3⟩ := h
    refine ⟨a, xs, h1, ?_, RelPs.less hb h3⟩
    rcases h2 with h2 | ⟨h2, f1, f2⟩
    · exact .inl h2
    · exact .inr ⟨h2, fun z => f1 (hb a z), f2⟩
theorem RelPs.less (hb : ∀ a, Φ.Bo a → B a) : ∀ {ps : List PV} {vs : List V}, RelPs (Φ.bo B) m H ps vs → RelPs Φ m H ps vs
  | [], _, h => by simpa only [RelPs] using h
  | p :: ps, vs, h => by
    simp only [RelPs] at h ⊢
    obtain ⟨v, vr, h1, h2, h3⟩ := h
    exact ⟨v, vr, h1, RelP.less hb h2, RelPs.less hb h3⟩
end
/-- an outer box may change -/
theorem upd_keep {a D : Addr} {u w : HO} (e : H a = some u) (h : a ≠ D) : upd H D w a = some u := by
  rw [upd_ne h]
  exact e
mutual
theorem RelP.agree {H' : Hp} (hD : Φ.Bo D) (k : ∀ a, a ≠ D → H' a = H a) : ∀ {p : PV} {v : V}, RelP Φ m H p v → RelP Φ m H' p v
  | .non, _, h => by simpa only [RelP] using h
  | .bl _, _, h => by simpa only [RelP] using h
  | .int _, _, h => by simpa only [RelP] using h
  | .str _, _, h => by simpa only [RelP] using h
  | .fn _, _, h => by simpa only [RelP] using h
  | .ty _, _, h => by simpa only [RelP] using h
  | .xc _ _, _, h => by
    simp only [RelP] at h ⊢
    exact h
  | .box n, v, h => by simpa only [RelP] using h
  | .tup l, v, h => by
    simp only [RelP] at h ⊢
    obtain ⟨a, xs, h1, h2, h3⟩ := h
    refine ⟨a, xs, h1, ?_, RelPs.agree hD k h3⟩
    rcases h2 with h2 | ⟨⟨o, h2, c, d⟩, f1, f2⟩
    · exact .inl h2
    · exact .inr ⟨⟨o, (k a fun z => f1 (by rw [z]; exact hD)).trans h2, c, d⟩, f1, f2⟩
  | .lst l, v, h => by
    simp only [RelP] at h ⊢
    obtain ⟨a, xs, h1, h2, h3⟩ := h
    exact ⟨a, xs, h1, ⟨(k a fun z => h2.2.1 (by rw [z]; exact hD)).trans h2.1, h2.2⟩, RelPs.agree hD k h3⟩
  | .klst l, v, h => by
    simp only [RelP] at h ⊢
    obtain ⟨a, xs, h1, h2, h3⟩ := h
    refine ⟨a, xs, h1, ?_, RelPs.agree hD k h3⟩
    rcases h2 with h2 | ⟨h2, f1, f2⟩
    · exact .inl h2
    · have e := k a fun z => f1 (by rw [z]; exact hD)
      refine .inr ⟨?_, f1, f2⟩
      rcases h2 with h2 | ⟨o, h2⟩
      · exact .inl (e.trans h2)
      · exact .inr ⟨o, e.trans h2⟩
theorem RelPs.agree {H' : Hp} (hD : Φ.Bo D) (k : ∀ a, a ≠ D → H' a = H a) : ∀ {ps : List PV} {vs : List V}, RelPs Φ m H ps vs → RelPs Φ m H' ps vs
  | [], _, h => by simpa only [RelPs] using h
  | p :: ps, vs, h => by
    simp only [RelPs] at h ⊢
    obtain ⟨v, vr, h1, h2, h3⟩ := h
    exact ⟨v, vr, h1, RelP.agree hD k h2, RelPs.agree hD k h3⟩
end
theorem RelP.updB {w : HO} (hD : Φ.Bo D) {p : PV} {v : V} (h : RelP Φ m H p v) : RelP Φ m (upd H D w) p v := h.agree hD fun a z => upd_ne z
theorem RelPs.updB {w : HO} (hD : Φ.Bo D) {p : List PV} {v : List V} (h : RelPs Φ m H p v) : RelPs Φ m (upd H D w) p v := h.agree hD fun a z => upd_ne z
theorem RelS.updB {w : HO} (s : RelS Φ m S H) (hD : Φ.Bo D) : RelS Φ m S (upd H D w) where
  len := s.len
  at_ := fun n a e => by
    obtain ⟨xs, vs, h1, h2, h3, h4⟩ := s.at_ n a e
    exact ⟨xs, vs, h1, upd_keep h2 fun z => h4 (by rw [z]; exact hD), h3.updB hD, h4⟩
  dead := s.dead
  inj := s.inj
  bo := fun a b => by
    by_cases h : a = D
    · rw [h, upd_same]
      exact fun z => nomatch z
    · rw [upd_ne h]
      exact s.bo a b
/-- a new place becomes an outer box -/
def addBo (Φ : Fm) (D : Addr) : Fm := Φ.bo fun a => Φ.Bo a ∨ a = D
theorem boIn_add (h : H D = none) : BoIn Φ H (fun a => Φ.Bo a ∨ a = D) := fun a b => by
  rcases b with b | b
  · exact .inl b
  · exact .inr (by rw [b]; exact h)
theorem RelS.add {w : HO} (s : RelS Φ m S H) (hD : H D = none) : RelS (addBo Φ D) m S (upd H D w) where
  len := s.len
  at_ := fun n a e => by
    obtain ⟨xs, vs, h1, h2, h3, h4⟩ := s.at_ n a e
    have ne : a ≠ D := fun z => by
      rw [z, hD] at h2
      cases h2
    exact ⟨xs, vs, h1, upd_keep h2 ne, (h3.bo (boIn_add hD)).updB (Φ := addBo Φ D) (Or.inr rfl : Φ.Bo D ∨ D = D), fun z => by
      rcases z with z | z
      · exact h4 z
      · exact ne z⟩
  dead := s.dead
  inj := s.inj
  bo := fun a b => by
    by_cases h : a = D
    · rw [h, upd_same]
      exact fun z => nomatch z
    · rw [upd_ne h]
      rcases b with b | b
      · exact s.bo a b
      · exact absurd b h
theorem RelS.drop (s : RelS (addBo Φ D) m S H) : RelS Φ m S H where
  len := s.len
  at_ := fun n a e => by
    obtain ⟨xs, vs, h1, h2, h3, h4⟩ := s.at_ n a e
    exact ⟨xs, vs, h1, h2, h3.less fun _ z => .inl z, fun z => h4 (.inl z)⟩
  dead := s.dead
  inj := s.inj
  bo := fun a b => s.bo a (.inl b)
theorem RelS.notin (s : RelS Φ m S H) (h : Φ.Bo D) : some D ∉ m := fun z => by
  obtain ⟨n, e⟩ := at_of_mem z
  obtain ⟨_, _, _, _, _, h4⟩ := s.at_ n D e
  exact h4 h
theorem Ext.updN {w : HO} (e : Ext m H m1 H1) (h : H D = none) : Ext m H m1 (upd H1 D w) where
  keep := fun a o q n => by
    obtain ⟨h1, h2⟩ := e.keep a o q n
    refine ⟨upd_keep h1 fun z => ?_, h2⟩
    rw [z, h] at q
    cases q
  len := e.len
  ix := e.ix

/-! ### own names forgotten -/
theorem wipes_len : ∀ (vs : List Nat) (ρ : Env), (wipes ρ vs).length = ρ.length
  | [], _ => rfl
  | v :: vs, ρ => by
    unfold wipes
    rw [List.length_set, wipes_len vs]
theorem wipes_some {i : Nat} {p : PV} : ∀ {vs : List Nat}, (wipes ρ vs)[i]? = some (some p) → ρ[i]? = some (some p) ∧ i ∉ vs
  | [], h => ⟨h, fun z => nomatch z⟩
  | v :: vs, h => by
    have h : ((wipes ρ vs).set v none)[i]? = some (some p) := h
    have ne : v ≠ i := fun e => by
      subst e
      rw [List.getElem?_set] at h
      split at h
      · split at h <;> cases h
      · contradiction
    rw [List.getElem?_set, if_neg ne] at h
    obtain ⟨q1, q2⟩ := wipes_some h
    refine ⟨q1, fun z => ?_⟩
    have zq105 := List.mem_cons.mp z
    rcases zq105 with z | z
    · exact ne z.symm
    · exact q2 z
theorem RelE.wipes (e : RelE Φ m H ρ σ) (vs : List Nat) : RelE Φ m H (wipes ρ vs) σ := ⟨by rw [wipes_len]; exact e.1, fun i p h => e.2 i p (wipes_some h).1⟩
theorem RelE.wipe2 (e : RelE Φ m H ρ σ) (vs : List Nat) : RelE Φ m H (Rn.wipes ρ vs) (wipe σ vs) := ⟨by rw [wipes_len, wipe_length]; exact e.1, fun i p h => by
  obtain ⟨h1, h2⟩ := wipes_some h
  obtain ⟨v, h3, h4⟩ := e.2 i p h1
  exact ⟨v, by rw [wipe_out h2]; exact h3, h4⟩⟩
theorem wipe_in {i : Nat} : ∀ {vs : List Nat}, i ∈ vs → i < σ.length → (wipe σ vs)[i]? = some none
  | [], h, _ => by cases h
  | v :: vs, h, hl => by
    unfold wipe
    by_cases hi : v = i
    · rw [hi]
      exact List.getElem?_set_self (by rw [wipe_length]; exact hl)
    · rw [List.getElem?_set_ne hi]
      rcases List.mem_cons.mp h with h | h
      · exact absurd h.symm hi
      · exact wipe_in h hl
theorem wipe_same {σ' : L2.St} {vs : List Nat} (h : SameOut vs σ σ') : wipe σ' vs = wipe σ vs := by
  refine List.ext_getElem? fun i => ?_
  by_cases hi : i ∈ vs
  · by_cases hl : i < σ.length
    · rw [wipe_in hi hl, wipe_in hi (by rw [h.1]; exact hl)]
    · rw [List.getElem?_eq_none (by rw [wipe_length, h.1]; omega), List.getElem?_eq_none (by rw [wipe_length]; omega)]
  · rw [wipe_out hi, wipe_out hi, h.2 i hi]
theorem wipe_wipe {vs : List Nat} : wipe (wipe σ vs) vs = wipe σ vs := wipe_same ⟨wipe_length σ vs, fun i hi => wipe_out hi⟩
theorem SameOut.mono {vs ws : List Nat} {σ' : L2.St} (h : SameOut vs σ σ') (k : ∀ i ∈ vs, i ∈ ws) : SameOut ws σ σ' := ⟨h.1, fun i hi => h.2 i fun z => hi (k i z)⟩

/-! ### the list that a block makes -/
theorem mk_done {bx : Bool} {l : List PV} {xs : List V} {m2 : Mp} {H2 : Hp} {S2 : Sto} {Q : VK} (s : RelS (addBo Φ D) m2 S2 H2) (r : RelPs (addBo Φ D) m2 H2 l xs) (hD : H2 D = some (.lst xs)) (hb : ¬ Φ.Bo D) (e : Ext m H m2 H2) (h0 : H D = none) (h : PostE Φ W m H σ (mk bx l S2) Q) : Q (.ref D) H2 := by
  have hn := s.notin (D := D) (.inr rfl)
  have s' := s.drop
  have r' : RelPs Φ m2 H2 l xs := r.less fun _ z => .inl z
  unfold mk at h
  split at h
  · cases bx with
    | false =>
      refine h m2 H2 _ e s' ?_
      simp only [RelP]
      exact ⟨D, xs, rfl, ⟨hD, hb, hn⟩, r'⟩
    | true =>
      have hl : m2.length = S2.length := s'.len
      have rels : ∀ {p : List PV} {v : List V}, RelPs (addBo Φ D) m2 H2 p v → RelPs Φ (m2 ++ [some D]) H2 p v := fun {p v} q => by
        have ex : Ext m2 (fun a => if a = D then none else H2 a) (m2 ++ [some D]) H2 := ⟨fun a o q n => by
          by_cases ha : a = D
          · rw [if_pos ha] at q
            cases q
          · rw [if_neg ha] at q
            refine ⟨q, fun z => ?_⟩
            rcases List.mem_append.mp z with z | z
            · exact n z
            · exact ha (by simpa using z), by rw [List.length_append]; exact Nat.le_add_right _ _, fun n o q => .inl (by
            rw [List.getElem?_append_left (List.getElem?_eq_some_iff.mp q).1]
            exact q)⟩
        have q2 : RelPs (addBo Φ D) m2 (fun a => if a = D then none else H2 a) p v := q.agree (D := D) (Or.inr rfl : Φ.Bo D ∨ D = D) fun a z => if_neg z
        exact (RelPs.ext ex q2).less fun _ z => .inl z
      refine h (m2 ++ [some D]) H2 (.ref D) ⟨fun a o q n => ?_, ?_, fun n o q => ?_⟩ ⟨?_, fun n a q => ?_, fun n q => ?_, fun i j a q1 q2 => ?_, s'.bo⟩ ?_
      · obtain ⟨h1, h2⟩ := e.keep a o q n
        refine ⟨h1, fun z => ?_⟩
        rcases List.mem_append.mp z with z | z
        · exact h2 z
        · have ea : a = D := by simpa using z
          rw [ea, h0] at q
          cases q
      · rw [List.length_append]
        exact Nat.le_trans e.len (Nat.le_add_right _ _)
      · rcases e.ix n o q with z | z
        · exact .inl (by rw [List.getElem?_append_left (List.getElem?_eq_some_iff.mp z).1]; exact z)
        · exact .inr (by rw [List.getElem?_append_left (List.getElem?_eq_some_iff.mp z).1]; exact z)
      · rw [List.length_append, List.length_append, hl]
        rfl
      · by_cases hn' : n < m2.length
        · rw [List.getElem?_append_left hn'] at q
          obtain ⟨xs', vs', z1, z2, z3, z4⟩ := s.at_ n a q
          refine ⟨xs', vs', ?_, z2, rels z3, fun z => z4 (.inl z)⟩
          rw [List.getElem?_append_left (by rw [← hl]; exact hn')]
          exact z1
        · rw [List.getElem?_append_right (Nat.le_of_not_lt hn')] at q
          have hz : n - m2.length = 0 := by
            have := (List.getElem?_eq_some_iff.mp q).1
            simp only [List.length_singleton] at this
            omega
          rw [hz] at q
          have e' : D = a := by simpa using q
          subst e'
          refine ⟨l, xs, ?_, hD, rels r, hb⟩
          rw [List.getElem?_append_right (by rw [← hl]; exact Nat.le_of_not_lt hn'), ← hl, hz]
          rfl
      · by_cases hn' : n < m2.length
        · rw [List.getElem?_append_left hn'] at q
          rw [List.getElem?_append_left (by rw [← hl]; exact hn')]
          exact s'.dead n q
        · rw [List.getElem?_append_right (Nat.le_of_not_lt hn')] at q
          have hz : n - m2.length = 0 := by
            have := (List.getElem?_eq_some_iff.mp q).1
            simp only [List.length_singleton] at this
            omega
          rw [hz] at q
          simp at q
      · have key : ∀ k, (m2 ++ [some D])[k]? = some (some a) → (k < m2.length ∧ m2[k]? = some (some a)) ∨ (k = m2.length ∧ a = D) := fun k e => by
          by_cases hk : k < m2.length
          · rw [List.getElem?_append_left hk] at e
            exact .inl ⟨hk, e⟩
          · rw [List.getElem?_append_right (Nat.le_of_not_lt hk)] at e
            have hz : k - m2.length = 0 := by
              have := (List.getElem?_eq_some_iff.mp e).1
              simp only [List.length_singleton] at this
              omega
            rw [hz] at e
            have e' : D = a := by simpa using e
            exact .inr ⟨by omega, e'.symm⟩
        have no : ∀ k, m2[k]? = some (some a) → a ≠ D := fun k e z => hn (by rw [← z]; exact mem_of_at e)
        rcases key i q1 with ⟨_, a1⟩ | ⟨a1, b1⟩ <;> rcases key j q2 with ⟨_, a2⟩ | ⟨a2, b2⟩
        · exact s'.inj i j a a1 a2
        · exact absurd b2 (no i a1)
        · exact absurd b1 (no j a2)
        · rw [a1, a2]
      · simp only [RelP]
        refine ⟨some D, ?_, fun a z => by cases z; rfl⟩
        rw [← hl, List.getElem?_append_right (Nat.le_refl _), Nat.sub_self]
        rfl
  · exact False.elim h
end
end Rn
set_option maxHeartbeats 1000007
/-! The runner is right: comprehensions. -/
namespace Rn
open L2 PySem PyProof.Rows PySem.Spec

section
variable {X : Cx} {Φ : Fm} {W : WX} {m m1 : Mp} {H H1 : Hp} {S : Sto} {ρ : Env} {σ : L2.St} {pos p2 apos cpos : Pos} {f g : Run} {tg o e : Expr} {es : List Expr} {t : Bool} {B : Addr → Prop} {D : Addr}
/-- nothing is raised -/
def WF : WX := fun _ _ _ _ => False
/-- a turn of a block of one clause -/
def lcStep (fc fe : Run) (tg : Tg) (ρ : Env) : PV → Sto → R (List PV) := fun x S2 => withO (store S2 tg x ρ) fun ρ' => (fc ρ' S2).bind fun w S3 => withO (truth S3 w) fun b =>
  if b then ((fe ρ' S3).bind fun v S1 => .ok (.lst [v]) S1).bind fun r S4 => withL r fun vs => .ok vs S4 else .ok [] S3
def lcRun (fi fc fe : Run) (tg : Tg) : Run := fun ρ S => (fi ρ S).bind fun v S1 => withO (items S1 v) fun l => (lcLoop (boxOf v) l (lcStep fc fe tg ρ) l S1).bind fun vs S5 => .ok (.lst vs) S5
theorem lcLoop_no {b : Option Nat} {all : List PV} {step : PV → Sto → R (List PV)} : ∀ {l : List PV} {S : Sto} {c : Xc} {S' : Sto}, lcLoop b all step l S ≠ .ex c S'
  | [], S, c, S', h => by
    have h : (if stays b all S then R.ok [] S else .no) = R.ex c S' := h
    split at h <;> cases h
  | x :: xs, S, c, S', h => by
    have h : (if stays b all S then (match step x S with
      | .ok r S1 => (match lcLoop b all step xs S1 with
        | .ok r2 S2 => .ok (r ++ r2) S2
        | _ => .no)
      | _ => .no) else .no) = R.ex c S' := h
    split at h
    · split at h
      · split at h <;> cases h
      · cases h
    · cases h
theorem lcLoop_cons {b : Option Nat} {all : List PV} {step : PV → Sto → R (List PV)} {x : PV} {xs : List PV} {S S' : Sto} {r : List PV} (h : lcLoop b all step (x :: xs) S = .ok r S') :
    stays b all S = true ∧ ∃ r1 r2 S1, step x S = .ok r1 S1 ∧ lcLoop b all step xs S1 = .ok r2 S' ∧ r = r1 ++ r2 := by
  have h : (if stays b all S then (match step x S with
      | .ok r S1 => (match lcLoop b all step xs S1 with
        | .ok r2 S2 => .ok (r ++ r2) S2
        | _ => .no)
      | _ => .no) else .no) = R.ok r S' := h
  split at h
  · rename_i hs
    refine ⟨hs, ?_⟩
    cases e1 : step x S with
    | no =>
      rw [e1] at h
      cases h
    | ex c S1 =>
      rw [e1] at h
      cases h
    | ok r1 S1 =>
      rw [e1] at h
      have h : (match lcLoop b all step xs S1 with
        | .ok r2 S2 => R.ok (r1 ++ r2) S2
        | _ => .no) = R.ok r S' := h
      cases e2 : lcLoop b all step xs S1 with
      | no =>
        rw [e2] at h
        cases h
      | ex c S2 =>
        rw [e2] at h
        cases h
      | ok r2 S2 =>
        rw [e2] at h
        cases h
        exact ⟨r1, r2, S1, rfl, e2, rfl⟩
  · cases h
theorem lcLoop_nil {b : Option Nat} {all : List PV} {step : PV → Sto → R (List PV)} {S S' : Sto} {r : List PV} (h : lcLoop b all step [] S = .ok r S') : stays b all S = true ∧ r = [] ∧ S' = S := by
  have h : (if stays b all S then R.ok [] S else .no) = R.ok r S' := h
  split at h
  · rename_i hs
    cases h
    exact ⟨hs, rfl, rfl⟩
  · cases h
theorem lcStep_ok {fc fe : Run} {tg : Tg} {x : PV} {S S' : Sto} {r : List PV} (h : lcStep fc fe tg ρ x S = .ok r S') :
    ∃ ρ' w S3 b, store S tg x ρ = some ρ' ∧ fc ρ' S = .ok w S3 ∧ truth S3 w = some b ∧ (if b then ∃ v, fe ρ' S3 = .ok v S' ∧ r = [v] else r = [] ∧ S' = S3) := by
  unfold lcStep at h
  cases e1 : store S tg x ρ with
  | none =>
    rw [e1] at h
    cases h
  | some ρ' =>
    rw [e1] at h
    have h : ((fc ρ' S).bind fun w S3 => withO (truth S3 w) fun b => if b then ((fe ρ' S3).bind fun v S1 => .ok (.lst [v]) S1).bind fun r S4 => withL r fun vs => .ok vs S4 else .ok [] S3) = R.ok r S' := h
    cases e2 : fc ρ' S with
    | no =>
      rw [e2] at h
      cases h
    | ex c S3 =>
      rw [e2] at h
      cases h
    | ok w S3 =>
      rw [e2] at h
      have h : (withO (truth S3 w) fun b => if b then ((fe ρ' S3).bind fun v S1 => .ok (.lst [v]) S1).bind fun r S4 => withL r fun vs => .ok vs S4 else .ok [] S3) = R.ok r S' := h
      cases e3 : truth S3 w with
      | none =>
        rw [e3] at h
        cases h
      | some b =>
        rw [e3] at h
        refine ⟨ρ', w, S3, b, rfl, e2, e3, ?_⟩
        cases b with
        | false =>
          cases h
          exact ⟨rfl, rfl⟩
        | true =>
          have h : (((fe ρ' S3).bind fun v S1 => R.ok (PV.lst [v]) S1).bind fun r S4 => withL r fun vs => .ok vs S4) = R.ok r S' := h
          cases e4 : fe ρ' S3 with
          | no =>
            rw [e4] at h
            cases h
          | ex c S3 =>
            rw [e4] at h
            cases h
          | ok v S4 =>
            rw [e4] at h
            cases h
            exact ⟨v, rfl, rfl⟩
theorem pts_nilR : PTs X [] (tRT Φ W fun _ S => .ok (.bl true) S) := ⟨fun pins s σ H Q I ⟨m, ρ, S, hs, he, h⟩ => pts_nil.run pins s σ H Q I (by
  obtain ⟨b, e, k⟩ := h
  cases e
  exact k m H Ext.refl hs)⟩

theorem lc_key {fi fc fe : Run} {tup bx : Bool} {tgt : Tg} {own : List Nat} {Q : VK} {te : TE} {tt : TT} {g : TG} (hte : ∀ B, ∀ σ H Q, tR (Φ.bo B) WF fe σ H Q → te σ H Q) (htt : ∀ B, ∀ σ H Q, tRT (Φ.bo B) WF fc σ H Q → tt σ H Q) (hg : ∀ B, ∀ v σ H Q, gR (Φ.bo B) tup tgt v σ H Q → g v σ H Q)
    (hown : ∀ i ∈ tgNs tgt, i ∈ own) (h : tR Φ W (fun ρ S => (lcRun fi fc fe tgt (wipes ρ own) S).bind fun r S1 => withL r fun vs => mk bx vs S1) σ H Q) : tLc (tRI Φ W tup fi) g tt te own σ H Q := by
  obtain ⟨m, ρ, S, s, e, h⟩ := h
  show tRI Φ W tup fi σ H _
  refine ⟨m, wipes ρ own, S, s, e.wipes own, ?_⟩
  have h : PostE Φ W m H σ ((lcRun fi fc fe tgt (wipes ρ own) S).bind fun r S1 => withL r fun vs => mk bx vs S1) Q := h
  unfold lcRun at h
  cases hr : fi (wipes ρ own) S with
  | no =>
    rw [hr] at h
    exact h
  | ex c S1 =>
    rw [hr] at h
    exact h
  | ok v S1 =>
    rw [hr] at h
    have h : PostE Φ W m H σ ((withO (items S1 v) fun l => (lcLoop (boxOf v) l (lcStep fc fe tgt (wipes ρ own)) l S1).bind fun vs S5 => .ok (.lst vs) S5).bind fun r S1 => withL r fun vs => mk bx vs S1) Q := h
    cases hi : items S1 v with
    | none =>
      rw [hi] at h
      exact False.elim h
    | some l =>
      rw [hi] at h
      have h : PostE Φ W m H σ (((lcLoop (boxOf v) l (lcStep fc fe tgt (wipes ρ own)) l S1).bind fun vs S5 => .ok (.lst vs) S5).bind fun r S1 => withL r fun vs => mk bx vs S1) Q := h
      cases hl : lcLoop (boxOf v) l (lcStep fc fe tgt (wipes ρ own)) l S1 with
      | no =>
        rw [hl] at h
        exact False.elim h
      | ex c S5 => exact absurd hl lcLoop_no
      | ok total S5 =>
        rw [hl] at h
        have h : PostE Φ W m H σ (mk bx total S5) Q := h
        have hz : total.length ≤ lim := mk_len h
        refine ⟨l, hi, fun m1 H1 J e1 s1 wj D hD => ?_⟩
        have hb : ¬ Φ.Bo D := fun z => s1.bo D z hD
        have h := PostE.ext e1 h
        have wj := wj _ (boIn_add hD)
        have re := (e.ext e1).wipe2 own
        let St : Nat → Hp → Prop := fun i H2 => ∃ m2 S2 accP acc rest, Ext m1 H1 m2 H2 ∧ RelS (addBo Φ D) m2 S2 H2 ∧ H2 D = some (.lst acc) ∧ RelPs (addBo Φ D) m2 H2 accP acc ∧
          lcLoop (boxOf v) l (lcStep fc fe tgt (wipes ρ own)) (l.drop i) S2 = .ok rest S5 ∧ accP ++ rest = total
        refine ⟨fun i k H2 => k = l.length - i ∧ i ≤ l.length ∧ St i H2, ⟨l.length, rfl, Nat.zero_le _, m1, S1, [], [], total, (Ext.refl).updN hD, s1.add hD, upd_same, RelPs.nil, hl, rfl⟩, ?_⟩
        rintro i k H2 ⟨rfl, hi2, m2, S2, accP, acc, rest, e2, s2, hD2, ra, hlp, ht⟩
        by_cases hlt : i < l.length
        · have hd : l.drop i = l[i] :: l.drop (i + 1) := List.drop_eq_getElem_cons hlt
          rw [hd] at hlp
          obtain ⟨hst, r1, r2, S3, hs3, hlp2, hr12⟩ := lcLoop_cons hlp
          have hn2 := s2.notin (D := D) (.inr rfl)
          obtain ⟨w1, w2, w3⟩ := wj m2 S2 H2 (show Ext m1 H1 m2 H2 from e2) s2 hst i
          refine .inr ⟨w1 hlt, fun H' => St (i + 1) H', fun H' q => ⟨l.length - (i + 1), by omega, rfl, by omega, q⟩, fun x H3 y => ?_⟩
          obtain ⟨e3, s3, rx⟩ := w3 _ x H3 (List.getElem?_eq_getElem hlt) y
          obtain ⟨ρ', wv, S3', b, q1, q2, q3, q4⟩ := lcStep_ok hs3
          have sumE : ∀ {m4 H4}, Ext m2 H2 m4 H4 → H4 D = some (.lst acc) := fun {m4 H4} e4 => (e4.keep D _ hD2 hn2).1
          refine hg _ x (wipe σ own) H3 _ ⟨m2, wipes ρ own, S2, l[i], ρ', s3, (show RelE (addBo Φ D) m2 H3 _ _ from ⟨re.1, fun j p hj => by
            obtain ⟨u, u1, u2⟩ := re.2 j p hj
            exact ⟨u, u1, ((u2.bo (boIn_add hD)).ext e2).ext e3⟩⟩), rx, q1, fun σ1 re1 so => ⟨?_, ?_⟩⟩
          · rw [wipe_same (so.mono hown), wipe_wipe]
          · refine htt _ σ1 H3 _ ⟨m2, ρ', S2, s3, re1, ?_⟩
            rw [q2]
            refine ⟨b, q3, fun m4 H4 e4 s4 => ?_⟩
            have e24 := e3.trans e4
            cases b with
            | false =>
              obtain ⟨z1, z2⟩ := q4
              subst z1 z2
              exact ⟨m4, S3, accP, acc, r2, e2.trans e24, s4, sumE e24, ra.ext e24, hlp2, by rw [← ht, hr12]; rfl⟩
            | true =>
              obtain ⟨yv, z1, z2⟩ := q4
              refine hte _ σ1 H4 _ ⟨m4, ρ', S3', s4, re1.ext e4, ?_⟩
              rw [z1]
              intro m5 H5 u e5 s5 r5
              have e25 := e24.trans e5
              have ra5 := ra.ext e25
              have hlen : acc.length < sizeLine := by
                have z3 := congrArg List.length ht
                rw [hr12, z2, List.length_append, List.length_append, ra.length] at z3
                simp only [List.length_singleton] at z3
                have : lim < sizeLine := by rw [sizeLine_eq]; decide
                omega
              refine ⟨acc, sumE e25, hlen, m5, S3, accP ++ [yv], acc ++ [u], r2, (e2.trans e25).updN hD, s5.updB (.inr rfl), upd_same, ?_, hlp2, ?_⟩
              · exact RelPs.updB (Φ := addBo Φ D) (Or.inr rfl : Φ.Bo D ∨ D = D) (ra5.append (RelPs.cons r5 RelPs.nil))
              · rw [← ht, hr12, z2, List.append_assoc]
        · have hie : i = l.length := by omega
          rw [List.drop_eq_nil_of_le (by omega)] at hlp
          obtain ⟨hst, z1, z2⟩ := lcLoop_nil hlp
          subst z1 z2
          rw [List.append_nil] at ht
          subst ht
          obtain ⟨w1, w2, w3⟩ := wj m2 _ H2 (show Ext m1 H1 m2 H2 from e2) s2 hst i
          exact .inl ⟨w2 (by omega), mk_done s2 ra hD2 hb e2 hD h⟩
theorem pe_lcR {elt iter : Expr} {ifs : List Expr} {scope : Scope} {own : List (Str × Nat)} {fi fc fe : Run} {tup bx : Bool} {tgt : Tg} (hc : X.calm = true) (hN : X.N.Nodup) (hi : PI X tg iter (tRI Φ W tup fi)) (ok : BlkOk X.N X.env.scope scope own)
    (hg : ∀ B (s : Shared) (H : Hp) (C : Addr) (cl : List (Str × Addr)) (fp : List Addr), PG (X.blk s H scope (compEnvC scope cl C X.env) fp) tg (gR (Φ.bo B) tup tgt)) (ht : ∀ B (s : Shared) (H : Hp) (C : Addr) (cl : List (Str × Addr)) (fp : List Addr), PTs (X.blk s H scope (compEnvC scope cl C X.env) fp) ifs (tRT (Φ.bo B) WF fc))
    (he : ∀ B (s : Shared) (H : Hp) (C : Addr) (cl : List (Str × Addr)) (fp : List Addr), PE (X.blk s H scope (compEnvC scope cl C X.env) fp) elt (tR (Φ.bo B) WF fe)) (hs : ∀ x, foldedSetIterable iter X.env x = pure x) (hown : ∀ i ∈ tgNs tgt, i ∈ own.map (·.2)) :
    PE X (.ListComp elt [⟨tg, iter, ifs, 0⟩] scope pos) (tR Φ W fun ρ S => (lcRun fi fc fe tgt (wipes ρ (own.map (·.2))) S).bind fun r S1 => withL r fun vs => mk bx vs S1) := by
  refine PE.of (pe_lc (g := fun v σ H Q => ∃ B, gR (Φ.bo B) tup tgt v σ H Q) (tt := fun σ H Q => ∃ B, tRT (Φ.bo B) WF fc σ H Q) (te := fun σ H Q => ∃ B, tR (Φ.bo B) WF fe σ H Q) hc hN hi ok ?_ ?_ ?_ hs) fun σ H Q h => lc_key (fun B σ H Q q => ⟨B, q⟩) (fun B σ H Q q => ⟨B, q⟩) (fun B v σ H Q q => ⟨B, q⟩) hown h
  · exact fun s H C cl fp => ⟨fun pins s' σ H' v u Q I r ⟨B, q⟩ => (hg B s H C cl fp).run pins s' σ H' v u Q I r q⟩
  · exact fun s H C cl fp => ⟨fun pins s' σ H' Q I ⟨B, q⟩ => (ht B s H C cl fp).run pins s' σ H' Q I q⟩
  · exact fun s H C cl fp => ⟨fun pins s' σ H' Q I ⟨B, q⟩ => (he B s H C cl fp).run pins s' σ H' Q I q⟩
end
end Rn
set_option maxHeartbeats 1000007
/-! The runner is right: statements. -/
namespace Rn
open L2 PySem PyProof.Rows PySem.Spec

abbrev RunS := Env → Sto → F
def PostS (Φ : Fm) (W : WX) (m : Mp) (H : Hp) (r : F) (D : Ends) : Prop := match r with
  | .nx ρ S => ∀ m' H' σ', Ext m H m' H' → RelS Φ m' S H' → RelE Φ m' H' ρ σ' → D.nx σ' H'
  | .bk ρ S => ∀ m' H' σ', Ext m H m' H' → RelS Φ m' S H' → RelE Φ m' H' ρ σ' → D.bk σ' H'
  | .ct ρ S => ∀ m' H' σ', Ext m H m' H' → RelS Φ m' S H' → RelE Φ m' H' ρ σ' → D.ct σ' H'
  | .rt p S => ∀ m' H' v, Ext m H m' H' → RelS Φ m' S H' → RelP Φ m' H' p v → D.rt v H'
  | .ex c ρ S => ∀ cls d m' H' σ', Ext m H m' H' → RelS Φ m' S H' → RelX Φ m' H' c cls d → RelE Φ m' H' ρ σ' → W cls d σ' H'
  | .no => False
def tS (Φ : Fm) (W : WX) (f : RunS) : TS := fun D σ H => ∃ m ρ S, RelS Φ m S H ∧ RelE Φ m H ρ σ ∧ PostS Φ W m H (f ρ S) D
theorem PS.of {X : Cx} {s : Stmt} {t t' : TS} (h : PS X s t) (k : ∀ D σ H, t' D σ H → t D σ H) : PS X s t' := ⟨fun pins s σ H D I q => h.run pins s σ H D I (k D σ H q)⟩
theorem PSs.of {X : Cx} {s : List Stmt} {t t' : TS} (h : PSs X s t) (k : ∀ D σ H, t' D σ H → t D σ H) : PSs X s t' := ⟨fun pins s σ H D I q => h.run pins s σ H D I (k D σ H q)⟩

section
variable {X : Cx} {Φ : Fm} {W : WX} {m m1 : Mp} {H H1 : Hp} {S : Sto} {ρ : Env} {σ : L2.St} {pos p2 apos cpos : Pos} {f g k : Run} {tg o e c : Expr} {es : List Expr} {t : Bool} {D : Ends} {fs gs : RunS} {st : Stmt} {sts as bs : List Stmt}
theorem PostS.ext (e : Ext m H m1 H1) : ∀ {r : F}, PostS Φ W m H r D → PostS Φ W m1 H1 r D
  | .nx _ _, h => fun m' H' σ' e1 s r => h m' H' σ' (e.trans e1) s r
  | .bk _ _, h => fun m' H' σ' e1 s r => h m' H' σ' (e.trans e1) s r
  | .ct _ _, h => fun m' H' σ' e1 s r => h m' H' σ' (e.trans e1) s r
  | .rt _ _, h => fun m' H' σ' e1 s r => h m' H' σ' (e.trans e1) s r
  | .ex _ _ _, h => fun cls d m' H' σ' e1 s x r => h cls d m' H' σ' (e.trans e1) s x r
  | .no, h => h
theorem finS {ρ' : Env} (h : PostS Φ W m H (.nx ρ' S) D) (s : RelS Φ m S H) (e : RelE Φ m H ρ' σ) : D.nx σ H := h m H σ Ext.refl s e
/-- an expression, then what hangs on its value -/
theorem chainS {q : PV → Sto → F} {Q1 : VK} (s : RelS Φ m S H) (e : RelE Φ m H ρ σ) (h : PostS Φ W m H (onR (f ρ S) ρ q) D)
    (k : ∀ p S1 m1 H1 v, Ext m H m1 H1 → RelS Φ m1 S1 H1 → RelE Φ m1 H1 ρ σ → RelP Φ m1 H1 p v → PostS Φ W m1 H1 (q p S1) D → Q1 v H1) : tR Φ W f σ H Q1 := by
  refine ⟨m, ρ, S, s, e, ?_⟩
  cases hr : f ρ S with
  | ok p S1 =>
    rw [hr] at h
    exact fun m1 H1 v e1 s1 r1 => k p S1 m1 H1 v e1 s1 (e.ext e1) r1 (PostS.ext e1 h)
  | ex c S1 =>
    rw [hr] at h
    exact fun cls d m1 H1 e1 s1 x1 => h cls d m1 H1 σ e1 s1 x1 (e.ext e1)
  | no =>
    rw [hr] at h
    exact h
theorem onO_ok {α : Type} {o : Option α} {q : α → F} (h : PostS Φ W m H (onO o q) D) : ∃ a, o = some a ∧ PostS Φ W m H (q a) D := by
  cases o with
  | none => exact False.elim h
  | some a => exact ⟨a, rfl, h⟩
theorem onR_ok {α : Type} {a : α} {ρ' : Env} {q : α → Sto → F} (h : PostS Φ W m H (onR (.ok a S) ρ' q) D) : PostS Φ W m H (q a S) D := h

/-! ### one after the other -/
theorem pss_nilR : PSs X [] (tS Φ W fun ρ S => .nx ρ S) := PSs.of pss_nil fun D σ H ⟨m, ρ, S, s, e, h⟩ => finS h s e
theorem pss_consR (h1 : PS X st (tS Φ W fs)) (h2 : PSs X sts (tS Φ W gs)) : PSs X (st :: sts) (tS Φ W fun ρ S => (fs ρ S).then fun ρ1 S1 => gs ρ1 S1) := by
  refine PSs.of (pss_cons h1 h2) fun D σ H ⟨m, ρ, S, s, e, h⟩ => ?_
  refine ⟨m, ρ, S, s, e, ?_⟩
  have h : PostS Φ W m H ((fs ρ S).then fun ρ1 S1 => gs ρ1 S1) D := h
  cases hr : fs ρ S with
  | nx ρ1 S1 =>
    rw [hr] at h
    exact fun m1 H1 σ1 e1 s1 r1 => ⟨m1, ρ1, S1, s1, r1, PostS.ext e1 h⟩
  | bk ρ1 S1 => rw [hr] at h; exact h
  | ct ρ1 S1 => rw [hr] at h; exact h
  | rt v S1 => rw [hr] at h; exact h
  | ex c ρ1 S1 => rw [hr] at h; exact h
  | no => rw [hr] at h; exact h
/-- a ghost: the runner alone goes on -/
theorem pss_ghost (h2 : PSs X sts (tS Φ W gs)) (hg : ∀ m ρ S σ H, RelS Φ m S H → RelE Φ m H ρ σ → ∀ D, PostS Φ W m H (fs ρ S) D → ∃ ρ1 S1 m1, fs ρ S = .nx ρ1 S1 ∧ Ext m H m1 H ∧ RelS Φ m1 S1 H ∧ RelE Φ m1 H ρ1 σ) :
    PSs X sts (tS Φ W fun ρ S => (fs ρ S).then fun ρ1 S1 => gs ρ1 S1) := by
  refine PSs.of h2 fun D σ H ⟨m, ρ, S, s, e, h⟩ => ?_
  have h0 : PostS Φ W m H (fs ρ S) ⟨fun _ _ => True, fun _ _ => True, fun _ _ => True, fun _ _ => True⟩ ∨ ∃ c ρ1 S1, fs ρ S = .ex c ρ1 S1 := by
    have h : PostS Φ W m H ((fs ρ S).then fun ρ1 S1 => gs ρ1 S1) D := h
    cases hr : fs ρ S with
    | nx ρ1 S1 => exact .inl fun _ _ _ _ _ _ => trivial
    | bk ρ1 S1 => exact .inl fun _ _ _ _ _ _ => trivial
    | ct ρ1 S1 => exact .inl fun _ _ _ _ _ _ => trivial
    | rt v S1 => exact .inl fun _ _ _ _ _ _ => trivial
    | ex c ρ1 S1 => exact .inr ⟨c, ρ1, S1, rfl⟩
    | no =>
      rw [hr] at h
      exact h.elim
  rcases h0 with h0 | ⟨c, ρ1, S1, hr⟩
  · obtain ⟨ρ1, S1, m1, e1, x1, s1, r1⟩ := hg m ρ S σ H s e _ h0
    have h : PostS Φ W m H ((fs ρ S).then fun ρ1 S1 => gs ρ1 S1) D := h
    rw [e1] at h
    exact ⟨m1, ρ1, S1, s1, r1, PostS.ext x1 h⟩
  · have h : PostS Φ W m H ((fs ρ S).then fun ρ1 S1 => gs ρ1 S1) D := h
    obtain ⟨ρ1, S1, m1, e1, _⟩ := hg m ρ S σ H s e ⟨fun _ _ => True, fun _ _ => True, fun _ _ => True, fun _ _ => True⟩ (by
      rw [hr] at h ⊢
      exact h)
    rw [hr] at e1
    cases e1

/-! ### small statements -/
theorem ps_passR : PS X (.Pass pos) (tS Φ W fun ρ S => .nx ρ S) := PS.of ps_pass fun D σ H ⟨m, ρ, S, s, e, h⟩ => finS h s e
theorem ps_breakR : PS X (.Break pos) (tS Φ W fun ρ S => .bk ρ S) := PS.of ps_break fun D σ H ⟨m, ρ, S, s, e, h⟩ => h m H σ Ext.refl s e
theorem ps_contR : PS X (.Continue pos) (tS Φ W fun ρ S => .ct ρ S) := PS.of ps_continue fun D σ H ⟨m, ρ, S, s, e, h⟩ => h m H σ Ext.refl s e
theorem ps_retR (h : PE X e (tR Φ W f)) : PS X (.Return (some e) pos) (tS Φ W fun ρ S => onR (f ρ S) ρ fun v S1 => .rt v S1) := PS.of (ps_ret h) fun D σ H ⟨m, ρ, S, s, e, h⟩ =>
  chainS s e h fun p S1 m1 H1 v e1 s1 E1 r1 h1 => h1 m1 H1 v Ext.refl s1 r1
theorem ps_retNR : PS X (.Return none pos) (tS Φ W fun ρ S => .rt .non S) := PS.of ps_retN fun D σ H ⟨m, ρ, S, s, e, h⟩ => h m H .non Ext.refl s (by simp only [RelP])
theorem ps_exprR (h : PE X e (tR Φ W f)) (hs : swapsWith e none pos.line X.env = pure false) : PS X (.Expr e pos) (tS Φ W fun ρ S => onR (f ρ S) ρ fun _ S1 => .nx ρ S1) := PS.of (ps_expr h hs) fun D σ H ⟨m, ρ, S, s, e, h⟩ =>
  chainS s e h fun p S1 m1 H1 v e1 s1 E1 r1 h1 => finS h1 s1 E1
theorem ps_ifR (hc : PT X c (tRT Φ W f)) (ha : PSs X as (tS Φ W fs)) (hb : PSs X bs (tS Φ W gs)) : PS X (.If c as bs pos) (tS Φ W fun ρ S => onR (f ρ S) ρ fun v S1 => onO (truth S1 v) fun t => if t then fs ρ S1 else gs ρ S1) := by
  refine PS.of (ps_if hc ha hb) fun D σ H ⟨m, ρ, S, s, e, h⟩ => ?_
  show tRT Φ W f σ H fun b H1 => if b = true then tS Φ W fs D σ H1 else tS Φ W gs D σ H1
  refine ⟨m, ρ, S, s, e, ?_⟩
  have h : PostS Φ W m H (onR (f ρ S) ρ fun v S1 => onO (truth S1 v) fun t => if t then fs ρ S1 else gs ρ S1) D := h
  cases hr : f ρ S with
  | no => rw [hr] at h; exact h
  | ex c S1 =>
    rw [hr] at h
    exact fun cls d m1 H1 e1 s1 x1 => h cls d m1 H1 σ e1 s1 x1 (e.ext e1)
  | ok p S1 =>
    rw [hr] at h
    obtain ⟨b, eb, h⟩ := onO_ok (onR_ok h)
    refine ⟨b, eb, fun m1 H1 e1 s1 => ?_⟩
    have h := PostS.ext e1 h
    cases b with
    | true => exact ⟨m1, ρ, S1, s1, e.ext e1, h⟩
    | false => exact ⟨m1, ρ, S1, s1, e.ext e1, h⟩
/-! ### target = value -/
theorem tR_mono {Q Q' : VK} (k : ∀ v H, Q v H → Q' v H) (h : tR Φ W f σ H Q) : tR Φ W f σ H Q' := by
  obtain ⟨m, ρ, S, s, e, h⟩ := h
  refine ⟨m, ρ, S, s, e, ?_⟩
  have h : PostE Φ W m H σ (f ρ S) Q := h
  cases hr : f ρ S with
  | no => rw [hr] at h; exact h
  | ex c S1 => rw [hr] at h; exact h
  | ok p S1 =>
    rw [hr] at h
    exact fun m1 H1 v e1 s1 r1 => k v H1 (h m1 H1 v e1 s1 r1)
theorem asg_key {t : Tg} (h : tS Φ W (fun ρ S => onR (f ρ S) ρ fun v S1 => onO (store S1 t v ρ) fun ρ1 => .nx ρ1 S1) D σ H) : tAsg (tR Φ W f) (gR Φ false t) D σ H := by
  obtain ⟨m, ρ, S, s, e, h⟩ := h
  refine chainS s e h fun p S1 m1 H1 v e1 s1 E1 r1 h1 => ?_
  obtain ⟨ρ1, es, h1⟩ := onO_ok h1
  exact ⟨m1, ρ, S1, p, ρ1, s1, E1, .inl r1, es, fun σ1 re _ => finS h1 s1 re⟩
theorem ps_asgR {t : Tg} (he : PE X e (tR Φ W f)) (hg : PG X tg (gR Φ false t)) (hs : swapsWithSole [tg] e pos.line X.env = pure false) (hw : swappedStores [tg] e X.env = pure none) (h1 : (assignEach [tg] X.env).map (·.2) = [assign tg X.env]) :
    PS X (.Assign [tg] e pos) (tS Φ W fun ρ S => onR (f ρ S) ρ fun v S1 => onO (store S1 t v ρ) fun ρ1 => .nx ρ1 S1) := PS.of (ps_asg he hg hs hw h1) fun D σ H h => asg_key h
theorem ps_setLcR {i : Nat} {y : Str} {py spos : Pos} {elt iter : Expr} {ifs : List Expr} {scope : Scope} {own : List (Str × Nat)} {fi fc fe : Run} {tup bx : Bool} {tgt : Tg} (hc : X.calm = true) (hN : X.N.Nodup) (hy : X.N[i]? = some y) (hyl : X.env.scope.names.lookup y = some .local)
    (hsw : swapsWith (.ListComp elt [⟨tg, iter, ifs, 0⟩] scope pos) (some (.Name y py)) spos.line X.env = pure true) (hi : PI X tg iter (tRI Φ W tup fi)) (ok : BlkOk X.N X.env.scope scope own)
    (hg : ∀ B (s : Shared) (H : Hp) (C : Addr) (cl : List (Str × Addr)) (fp : List Addr), PG (X.blk s H scope (compEnvC scope cl C X.env) fp) tg (gR (Φ.bo B) tup tgt)) (ht : ∀ B (s : Shared) (H : Hp) (C : Addr) (cl : List (Str × Addr)) (fp : List Addr), PTs (X.blk s H scope (compEnvC scope cl C X.env) fp) ifs (tRT (Φ.bo B) WF fc))
    (he : ∀ B (s : Shared) (H : Hp) (C : Addr) (cl : List (Str × Addr)) (fp : List Addr), PE (X.blk s H scope (compEnvC scope cl C X.env) fp) elt (tR (Φ.bo B) WF fe)) (hs : ∀ x, foldedSetIterable iter X.env x = pure x) (hown : ∀ i ∈ tgNs tgt, i ∈ own.map (·.2)) :
    PS X (.Assign [.Name y py] (.ListComp elt [⟨tg, iter, ifs, 0⟩] scope pos) spos) (tS Φ W fun ρ S => onR ((lcRun fi fc fe tgt (wipes ρ (own.map (·.2))) S).bind fun r S1 => withL r fun vs => mk bx vs S1) ρ fun v S1 => onO (store S1 (.nm i) v ρ) fun ρ1 => .nx ρ1 S1) := by
  refine PS.of (ps_setLc (g := fun v σ H Q => ∃ B, gR (Φ.bo B) tup tgt v σ H Q) (tt := fun σ H Q => ∃ B, tRT (Φ.bo B) WF fc σ H Q) (te := fun σ H Q => ∃ B, tR (Φ.bo B) WF fe σ H Q) hc hN hy hyl hsw hi ok ?_ ?_ ?_ hs) fun D σ H h => ?_
  · exact fun s H C cl fp => ⟨fun pins s' σ H' v u Q I r ⟨B, q⟩ => (hg B s H C cl fp).run pins s' σ H' v u Q I r q⟩
  · exact fun s H C cl fp => ⟨fun pins s' σ H' Q I ⟨B, q⟩ => (ht B s H C cl fp).run pins s' σ H' Q I q⟩
  · exact fun s H C cl fp => ⟨fun pins s' σ H' Q I ⟨B, q⟩ => (he B s H C cl fp).run pins s' σ H' Q I q⟩
  · have h2 := asg_key (t := .nm i) (f := fun ρ S => (lcRun fi fc fe tgt (wipes ρ (own.map (·.2))) S).bind fun r S1 => withL r fun vs => mk bx vs S1) h
    refine lc_key (fun B σ H Q q => ⟨B, q⟩) (fun B σ H Q q => ⟨B, q⟩) (fun B v σ H Q q => ⟨B, q⟩) hown (tR_mono (fun v H1 q => ?_) h2)
    obtain ⟨m, ρ, S, p, ρ1, s, e, r, hs, k⟩ := q
    have hs : (if Nat.blt i ρ.length then some (ρ.set i (some p)) else none) = some ρ1 := hs
    split at hs
    · cases hs
      rcases r with r | ⟨z, _⟩
      · exact k _ (e.set r) SameOut.set
      · cases z
    · cases hs
end
end Rn
set_option maxHeartbeats 1000007
/-! The runner is right: loops, boxes that change. -/
namespace Rn
open L2 PySem PyProof.Rows PySem.Spec

section
variable {X : Cx} {Φ : Fm} {W : WX} {m m1 : Mp} {H H1 : Hp} {S : Sto} {ρ : Env} {σ : L2.St} {pos p2 apos cpos : Pos} {f g k : Run} {tg o e c i : Expr} {es : List Expr} {t : Bool} {D : Ends} {fs gs : RunS} {st : Stmt} {sts as bs body : List Stmt}

/-! ### a box gets a new content -/
theorem Ext.put {a : Addr} {w : HO} (h : some a ∈ m) : Ext m H m (upd H a w) where
  keep := fun b o q n => ⟨upd_keep q fun z => n (by rw [z]; exact h), n⟩
  len := Nat.le_refl _
  ix := fun _ _ q => .inl q
theorem RelS.put {a : Addr} {n : Nat} {l : List PV} {vs : List V} (s : RelS Φ m S H) (hm : m[n]? = some (some a)) (r : RelPs Φ m H l vs) : RelS Φ m (S.set n (some l)) (upd H a (.lst vs)) where
  len := by rw [List.length_set]; exact s.len
  at_ := fun j b q => by
    by_cases hj : n = j
    · subst hj
      rw [hm] at q
      cases q
      obtain ⟨_, _, h1, _, _, h4⟩ := s.at_ n a hm
      exact ⟨l, vs, List.getElem?_set_self (List.getElem?_eq_some_iff.mp h1).1, upd_same, r.ext (Ext.put (mem_of_at hm)), h4⟩
    · obtain ⟨xs, ws, h1, h2, h3, h4⟩ := s.at_ j b q
      exact ⟨xs, ws, by rw [List.getElem?_set_ne hj]; exact h1, upd_keep h2 fun z => hj (s.inj n j a hm (by rw [← z]; exact q)), h3.ext (Ext.put (mem_of_at hm)), h4⟩
  dead := fun j q => by
    have hj : n ≠ j := fun z => by
      rw [← z, hm] at q
      cases q
    rw [List.getElem?_set_ne hj]
    exact s.dead j q
  inj := s.inj
  bo := fun b hb => by
    by_cases h : b = a
    · rw [h, upd_same]
      exact fun z => nomatch z
    · rw [upd_ne h]
      exact s.bo b hb
theorem box_at {n : Nat} {v : V} {l : List PV} (s : RelS Φ m S H) (r : RelP Φ m H (.box n) v) (h : getB S n = some l) : ∃ a vs, v = .ref a ∧ m[n]? = some (some a) ∧ H a = some (.lst vs) ∧ RelPs Φ m H l vs := by
  obtain ⟨a, vs, q1, q2, q3, _⟩ := s.box h
  simp only [RelP] at r
  obtain ⟨o, r1, r2⟩ := r
  rw [q1] at r1
  cases r1
  exact ⟨a, vs, r2 a rfl, q1, q2, q3⟩

/-! ### o.append(e), o.pop() -/
theorem ps_appR {nm : Str} (hn : nm = Str.ofString "append") (hK : X.K = Φ.K) (hbase : attributeBase o nm X.env (eval o X.env) = eval o X.env) (hline : (apos.endLine == cpos.line) = true) (hp : plainE e = true)
    (hs : swapsWith (.Call (.Attribute o nm apos) [e] [] cpos) none pos.line X.env = pure false) (ho : PE X o (tR Φ W f)) (he : PE X e (tR Φ W g)) :
    PS X (.Expr (.Call (.Attribute o nm apos) [e] [] cpos) pos) (tS Φ W fun ρ S => onR (f ρ S) ρ fun o S1 => match o with
      | .box n => onO (getB S1 n) fun _ => onR (g ρ S1) ρ fun v S2 => onO (getB S2 n) fun l => if Nat.blt l.length lim then .nx ρ (S2.set n (some (l ++ [v]))) else .no
      | _ => .no) := by
  subst hn
  have hm : MtR X "list.append" rAppend := mt_append
  have st := star_plain hp [] X.env
  refine PS.of (ps_expr (pe_bm PySem.F.plainAttrs_list PySem.F.slot_list_append PySem.F.type_list_append hm ho (pa_cons he pa_nil st) hbase (few1 hp X.env) hline st rfl) hs) fun D σ H ⟨m, ρ, S, s, E, h⟩ => ?_
  refine chainS s E h fun p S1 m1 H1 x e1 s1 E1 r1 h1 => ?_
  cases p with
  | box n =>
    obtain ⟨l1, g1, h1⟩ := onO_ok h1
    obtain ⟨a, vs, rfl, m1n, ha, rl⟩ := box_at s1 r1 g1
    refine ⟨.inl ⟨rfl, vs, SqL.of ha⟩, ?_⟩
    show tR Φ W g σ H1 fun v H2 => _
    refine chainS s1 E1 h1 fun q S2 m2 H2 y e2 s2 E2 r2 h2 => ?_
    obtain ⟨l, g2, h2⟩ := onO_ok h2
    obtain ⟨a', ws, ea, m2n, ha', rl'⟩ := box_at s2 (r1.ext e2) g2
    cases ea
    cases hz : Nat.blt l.length lim with
    | false =>
      rw [hz] at h2
      exact False.elim h2
    | true =>
      rw [hz] at h2
      have hz' : l.length < lim := Nat.le_of_ble_eq_true hz
      refine ⟨a, ws, y, rfl, rfl, ha', ?_, ?_⟩
      · rw [← rl'.length]
        exact Nat.lt_of_lt_of_le hz' (by rw [sizeLine_eq]; decide)
      · exact h2 m2 _ σ (Ext.put (mem_of_at m2n)) (s2.put m2n (rl'.append (RelPs.cons r2 RelPs.nil))) (E2.ext (Ext.put (mem_of_at m2n)))
  | _ => exact False.elim h1
theorem dropLast_rel {l : List PV} {vs : List V} (r : RelPs Φ m H l vs) : RelPs Φ m H l.dropLast vs.dropLast := by
  rw [List.dropLast_eq_take, List.dropLast_eq_take, r.length]
  exact r.take _
theorem ps_popR {nm : Str} (hn : nm = Str.ofString "pop") (hK : X.K = Φ.K) (hbase : attributeBase o nm X.env (eval o X.env) = eval o X.env) (hline : (apos.endLine == cpos.line) = true)
    (hs : swapsWith (.Call (.Attribute o nm apos) [] [] cpos) none pos.line X.env = pure false) (ho : PE X o (tR Φ W f)) :
    PS X (.Expr (.Call (.Attribute o nm apos) [] [] cpos) pos) (tS Φ W fun ρ S => onR (f ρ S) ρ fun o S1 => match o with
      | .box n => onO (getB S1 n) fun l => match l with
        | [] => .no
        | x :: xs => .nx ρ (S1.set n (some (x :: xs).dropLast))
      | _ => .no) := by
  subst hn
  have hm : MtR X "list.pop" rPop := mt_pop
  refine PS.of (ps_expr (pe_bm0 PySem.F.plainAttrs_list PySem.F.slot_list_pop PySem.F.type_list_pop hm ho hbase hline) hs) fun D σ H ⟨m, ρ, S, s, E, h⟩ => ?_
  refine chainS s E h fun p S1 m1 H1 x e1 s1 E1 r1 h1 => ?_
  cases p with
  | box n =>
    obtain ⟨l, g1, h1⟩ := onO_ok h1
    obtain ⟨a, vs, rfl, m1n, ha, rl⟩ := box_at s1 r1 g1
    refine ⟨.inl ⟨rfl, vs, SqL.of ha⟩, ?_⟩
    cases l with
    | nil => exact False.elim h1
    | cons y ys =>
      have hl := rl.length
      have hv : 0 < vs.length := by rw [← hl]; exact Nat.succ_pos _
      refine ⟨a, vs, vs[vs.length - 1]'(by omega), rfl, rfl, ha, List.getElem?_eq_getElem (by omega), ?_⟩
      exact h1 m1 _ σ (Ext.put (mem_of_at m1n)) (s1.put m1n (dropLast_rel rl)) (E1.ext (Ext.put (mem_of_at m1n)))
  | _ => exact False.elim h1

/-! ### o[i] = e, a op= e, o[i] op= e -/
theorem put_ok {o' i' v' : PV} {x y w : V} (s : RelS Φ m S H) (E : RelE Φ m H ρ σ) (rv : RelP Φ m H v' w) (ro : RelP Φ m H o' x) (ri : RelP Φ m H i' y) (h : PostS Φ W m H (putI ρ S o' i' v') D) : rSetL x y w H fun H3 => D.nx σ H3 := by
  cases o' with
  | box n =>
    cases i' with
    | int j =>
      simp only [RelP] at ri
      subst ri
      have h : PostS Φ W m H (onO (getB S n) fun l => onO (Rn.ixN l.length j) fun j => .nx ρ (S.set n (some (l.set j v')))) D := h
      obtain ⟨l, g3, h⟩ := onO_ok h
      obtain ⟨j', ej, h⟩ := onO_ok h
      obtain ⟨a, ws, rfl, m3n, ha, rl⟩ := box_at s ro g3
      rw [ixN_eq, rl.length] at ej
      exact ⟨a, ws, j, j', rfl, rfl, ha, ej, h m _ σ (Ext.put (mem_of_at m3n)) (s.put m3n (rl.set j' rv)) (E.ext (Ext.put (mem_of_at m3n)))⟩
    | _ => exact False.elim h
  | _ => exact False.elim h
theorem ps_subR (hset : (assignEach [.Subscript o i p2] X.env).map (·.2) = [assign (.Subscript o i p2) X.env]) (hs : swapsWithSole [.Subscript o i p2] e pos.line X.env = pure false) (hw : swappedStores [.Subscript o i p2] e X.env = pure none)
    (hasg : ∀ v, assign (.Subscript o i p2) X.env v = (do
      let ov ← holding
            [v] (eval o X.env)
      let iv ← holding [v,
            ov] (eval i X.env)
      standAt p2
      holding [v, ov,
            iv] (setItem ov iv v)
      release [v, ov, iv] []))
    (he : PE X e (tR Φ W f)) (ho : PE X o (tR Φ W g)) (hi : PE X i (tR Φ W k)) :
    PS X (.Assign [.Subscript o i p2] e pos) (tS Φ W fun ρ S => onR (f ρ S) ρ fun v S1 => onR (g ρ S1) ρ fun o S2 => onR (k ρ S2) ρ fun i S3 => putI ρ S3 o i v) := by
  refine PS.of (ps_asg he (pg_sub ho hi set_list hasg) hs hw hset) fun D σ H ⟨m, ρ, S, s, E, h⟩ => ?_
  refine chainS s E h fun p S1 m1 H1 x e1 s1 E1 r1 h1 => ?_
  refine chainS s1 E1 h1 fun q S2 m2 H2 y e2 s2 E2 r2 h2 => ?_
  refine chainS s2 E2 h2 fun z S3 m3 H3 w e3 s3 E3 r3 h3 => ?_
  exact put_ok s3 E3 ((r1.ext e2).ext e3) (r2.ext e3) r3 h3
end
end Rn
set_option maxHeartbeats 1000007
/-! The runner is right: loops. -/
namespace Rn
open L2 PySem PyProof.Rows PySem.Spec

section
variable {X : Cx} {Φ : Fm} {W : WX} {m m1 : Mp} {H H1 : Hp} {S : Sto} {ρ : Env} {σ : L2.St} {pos p2 apos cpos : Pos} {f g k : Run} {tg o e c i : Expr} {es : List Expr} {t : Bool} {D : Ends} {fs gs : RunS} {st : Stmt} {sts as bs body : List Stmt}
/-- a op= e, numbers -/
def opI : Bo → Option (Int → Int → Int)
  | .add => some fun a b => a + b
  | .sub => some fun a b => a - b
  | _ => none
theorem ip_of {b : Bo} {op : Operator} {q : Int → Int → Int} (hb : BoOk b op) (h : opI b = some q) : PIp X op (ipI q) := by
  cases hb <;> first | (cases h; exact ip_add) | (cases h; exact ip_sub) | (cases h; done)
theorem aug_ok {b : Bo} {q : Int → Int → Int} {x y v : PV} {u w : V} {Q : VK} (hq : opI b = some q) (h : augO b x y = some v) (rx : RelP Φ m H x u) (ry : RelP Φ m H y w) (k : ∀ z, RelP Φ m H v z → Q z H) : ipI q u w H Q := by
  cases x with
  | int x =>
    cases y with
    | int y =>
      simp only [RelP] at rx ry
      subst rx ry
      cases b with
      | add =>
        cases hq
        cases h
        exact ⟨x, y, rfl, rfl, k _ (by simp only [RelP])⟩
      | sub =>
        cases hq
        cases h
        exact ⟨x, y, rfl, rfl, k _ (by simp only [RelP])⟩
      | _ => cases hq
    | _ => cases h
  | _ => cases h
theorem ps_augR {n : Nat} {x : Str} {b : Bo} {op : Operator} {q : Int → Int → Int} (hb : BoOk b op) (hq : opI b = some q) (hN : X.N.Nodup) (hi : X.N[n]? = some x) (hx : Loc X.env.scope x) (hf : X.fn x = true ∨ X.env.scope.names.lookup x = some .local) (he : PE X e (tR Φ W f)) :
    PS X (.AugAssign (.Name x p2) op e pos) (tS Φ W fun ρ S => onR (getV ρ n S) ρ fun a S0 => onR (f ρ S0) ρ fun y S1 => onO (augO b a y) fun v => .nx (ρ.set n (some v)) S1) := by
  refine PS.of (ps_aug hN hi hx he (ip_of hb hq) hf) fun D σ H ⟨m, ρ, S, s, E, h⟩ => ?_
  have h : PostS Φ W m H (onR (getV ρ n S) ρ fun a S0 => onR (f ρ S0) ρ fun y S1 => onO (augO b a y) fun v => .nx (ρ.set n (some v)) S1) D := h
  unfold getV at h
  split at h
  · rename_i p hp
    obtain ⟨v, hv, rv⟩ := E.2 n p hp
    refine ⟨v, hv, ?_⟩
    refine chainS s E h fun y S1 m1 H1 w e1 s1 E1 r1 h1 => ?_
    obtain ⟨z, ez, h1⟩ := onO_ok h1
    exact aug_ok hq ez (rv.ext e1) r1 fun u ru => finS h1 s1 (E1.set ru)
  · exact False.elim h
theorem get_list : PGet X (rIxL X.K) := fun pins s σ H x y v u Q I rx ry ⟨a, ys, n, z, ex, ey, sq, here, q⟩ => by
  subst ex ey
  obtain ⟨t, rfl⟩ := ry
  obtain rfl : v = .ref a := rx
  obtain ⟨its, vals, pl, few⟩ := I.list sq
  obtain ⟨k, ix, at_, low, neg, pos⟩ := atI_get here
  obtain ⟨w, there, rw'⟩ := vals.get at_
  have len := vals.length
  have long := line63
  have done : EP X pins σ Q w s := ⟨z, H, I, rw', q⟩
  rcases Int.lt_or_le n 0 with m | m
  · have e : (n + (its.toArray.size : Int)).toNat = k := by
      have e2 := (seqIndex_neg m neg).symm.trans ix
      rw [List.size_toArray, ← len]
      exact Option.some.inj e2
    exact wpAny_getItem_list_neg pl.isList m (by rw [List.size_toArray] <;> omega) (by omega) (by rw [e]; simpa using there) done
  · have e : n.toNat = k := Option.some.inj ((seqIndex_of m pos).symm.trans ix)
    exact wpAny_getItem_list pl.isList m (by omega) (by rw [e]; simpa using there) done
theorem ps_augsR {b : Bo} {op : Operator} {q : Int → Int → Int} (hb : BoOk b op) (hq : opI b = some q) (hst : ∀ ov iv new, augStore i ov iv new = (do holding [new, ov, iv] (setItem ov iv new); release [new, ov, iv] []; pure .next)) (hK : X.K = Φ.K) (ho : PE X o (tR Φ W f)) (hi : PE X i (tR Φ W g)) (he : PE X e (tR Φ W k)) :
    PS X (.AugAssign (.Subscript o i p2) op e pos) (tS Φ W fun ρ S => onR (f ρ S) ρ fun a S1 => onR (g ρ S1) ρ fun i S2 => onO (augG S2 a i) fun x => onR (k ρ S2) ρ fun y S3 => onO (augO b x y) fun v => putI ρ S3 a i v) := by
  refine PS.of (ps_augS ho hi get_list he (ip_of hb hq) set_list hst) fun D σ H ⟨m, ρ, S, s, E, h⟩ => ?_
  refine chainS s E h fun p S1 m1 H1 x e1 s1 E1 r1 h1 => ?_
  refine chainS s1 E1 h1 fun q' S2 m2 H2 y e2 s2 E2 r2 h2 => ?_
  obtain ⟨z, ez, h2⟩ := onO_ok h2
  cases p with
  | box n =>
    cases q' with
    | int j =>
      have ez : (match getB S2 n with | some l => getI l j | none => none) = some z := ez
      cases eb : getB S2 n with
      | none =>
        rw [eb] at ez
        cases ez
      | some l =>
        rw [eb] at ez
        obtain ⟨a, ws, rfl, m2n, ha, rl⟩ := box_at s2 (r1.ext e2) eb
        have r2' := r2
        simp only [RelP] at r2'
        subst r2'
        obtain ⟨w, ew, rw'⟩ := getI_ok rl ez
        refine ⟨a, ws, j, w, rfl, rfl, by rw [hK]; exact SqL.of ha, ew, ?_⟩
        refine chainS s2 E2 h2 fun y' S3 m3 H3 u e3 s3 E3 r3 h3 => ?_
        obtain ⟨v, ev, h3⟩ := onO_ok h3
        exact aug_ok hq ev (rw'.ext e3) r3 fun w' ru => put_ok s3 E3 ru ((r1.ext e2).ext e3) (r2.ext e3) h3
    | _ => cases ez
  | _ => cases ez

/-! ### while -/
theorem tRT_of {tt : Bool → Sto → F} {Q1 : Bool → Hp → Prop} (s : RelS Φ m S H) (e : RelE Φ m H ρ σ) (h : PostS Φ W m H (onR ((f ρ S).bind fun v S2 => opt (truth S2 v) S2) ρ tt) D)
    (kk : ∀ b S1 m1 H1, Ext m H m1 H1 → RelS Φ m1 S1 H1 → RelE Φ m1 H1 ρ σ → PostS Φ W m1 H1 (tt b S1) D → Q1 b H1) : tRT Φ W f σ H Q1 := by
  refine ⟨m, ρ, S, s, e, ?_⟩
  cases hr : f ρ S with
  | no =>
    rw [hr] at h
    exact h
  | ex c S1 =>
    rw [hr] at h
    exact fun cls d m1 H1 e1 s1 x1 => h cls d m1 H1 σ e1 s1 x1 (e.ext e1)
  | ok p S1 =>
    rw [hr] at h
    have h : PostS Φ W m H (onR (opt (truth S1 p) S1) ρ tt) D := h
    cases et : truth S1 p with
    | none =>
      rw [et] at h
      exact False.elim h
    | some b =>
      rw [et] at h
      exact ⟨b, et, fun m1 H1 e1 s1 => kk b S1 m1 H1 e1 s1 (e.ext e1) (PostS.ext e1 h)⟩
theorem ps_whlR {wf : Nat} (hp : PassesOwn (model X.prog X.w) X.A X.env X.xe) (hc : PT X c (tRT Φ W f)) (hb : PSs X body (tS Φ W fs)) :
    PS X (.While c body [] pos) (tS Φ W fun ρ S => whlLoop (fun ρ1 S1 => (f ρ1 S1).bind fun v S2 => opt (truth S2 v) S2) fs wf ρ S) := by
  refine PS.of (ps_while hp hc hb) fun D σ H ⟨m, ρ, S, s, E, h⟩ => ?_
  let St : Nat → L2.St → Hp → Prop := fun n σ H => ∃ m ρ S, RelS Φ m S H ∧ RelE Φ m H ρ σ ∧ PostS Φ W m H (whlLoop (fun ρ1 S1 => (f ρ1 S1).bind fun v S2 => opt (truth S2 v) S2) fs n ρ S) D
  refine ⟨St, ⟨wf, m, ρ, S, s, E, h⟩, ?_⟩
  rintro n σ H ⟨m, ρ, S, s, E, h⟩
  cases n with
  | zero => exact False.elim h
  | succ n =>
    have h : PostS Φ W m H (onR ((f ρ S).bind fun v S2 => opt (truth S2 v) S2) ρ fun t S1 => if t then (match fs ρ S1 with
      | .nx ρ1 S2 => whlLoop (fun ρ1 S1 => (f ρ1 S1).bind fun v S2 => opt (truth S2 v) S2) fs n ρ1 S2
      | .ct ρ1 S2 => whlLoop (fun ρ1 S1 => (f ρ1 S1).bind fun v S2 => opt (truth S2 v) S2) fs n ρ1 S2
      | .bk ρ1 S2 => .nx ρ1 S2
      | f => f) else .nx ρ S1) D := h
    refine tRT_of s E h fun b S1 m1 H1 e1 s1 E1 h1 => ?_
    cases b with
    | false => exact finS h1 s1 E1
    | true =>
      refine ⟨St n, fun σ' H' q => ⟨n, Nat.lt_succ_self n, q⟩, m1, ρ, S1, s1, E1, ?_⟩
      have h1 : PostS Φ W m1 H1 (match fs ρ S1 with
      | .nx ρ1 S2 => whlLoop (fun ρ1 S1 => (f ρ1 S1).bind fun v S2 => opt (truth S2 v) S2) fs n ρ1 S2
      | .ct ρ1 S2 => whlLoop (fun ρ1 S1 => (f ρ1 S1).bind fun v S2 => opt (truth S2 v) S2) fs n ρ1 S2
      | .bk ρ1 S2 => .nx ρ1 S2
      | f => f) D := h1
      cases hr : fs ρ S1 with
      | nx ρ1 S2 =>
        rw [hr] at h1
        exact fun m2 H2 σ2 e2 s2 E2 => ⟨m2, ρ1, S2, s2, E2, PostS.ext e2 h1⟩
      | ct ρ1 S2 =>
        rw [hr] at h1
        exact fun m2 H2 σ2 e2 s2 E2 => ⟨m2, ρ1, S2, s2, E2, PostS.ext e2 h1⟩
      | bk ρ1 S2 =>
        rw [hr] at h1
        exact h1
      | rt v S2 =>
        rw [hr] at h1
        exact h1
      | ex c ρ1 S2 =>
        rw [hr] at h1
        exact h1
      | no =>
        rw [hr] at h1
        exact h1

/-! ### for -/
theorem ps_forR {iter : Expr} {fi : Run} {tup : Bool} {tgt : Tg} (hp : PassesOwn (model X.prog X.w) X.A X.env X.xe) (hc : X.calm = true) (hi : PI X tg iter (tRI Φ W tup fi)) (hg : PG X tg (gR Φ tup tgt)) (hb : PSs X body (tS Φ W fs)) (hs : ∀ x, foldedSetIterable iter X.env x = pure x) :
    PS X (.For tg iter body [] pos) (tS Φ W fun ρ S => onR (fi ρ S) ρ fun v S1 => onO (items S1 v) fun l => forLoop (boxOf v) l (fun x ρ1 S2 => onO (store S2 tgt x ρ1) fun ρ2 => fs ρ2 S2) l ρ S1) := by
  refine PS.of (ps_for hp hc hi hg hb hs) fun D σ H ⟨m, ρ, S, s, E, h⟩ => ?_
  show tRI Φ W tup fi σ H _
  refine ⟨m, ρ, S, s, E, ?_⟩
  have h : PostS Φ W m H (onR (fi ρ S) ρ fun v S1 => onO (items S1 v) fun l => forLoop (boxOf v) l (fun x ρ1 S2 => onO (store S2 tgt x ρ1) fun ρ2 => fs ρ2 S2) l ρ S1) D := h
  cases hr : fi ρ S with
  | no =>
    rw [hr] at h
    exact h
  | ex c S1 =>
    rw [hr] at h
    exact fun cls d m1 H1 e1 s1 x1 => h cls d m1 H1 σ e1 s1 x1 (E.ext e1)
  | ok v S1 =>
    rw [hr] at h
    obtain ⟨l, el, h⟩ := onO_ok (onR_ok h)
    refine ⟨l, el, fun m1 H1 J e1 s1 wj => ?_⟩
    have wj : WalkR Φ m1 H1 tup (boxOf v) l J := wj Φ.Bo fun a b => .inl b
    let St : Nat → L2.St → Hp → Prop := fun i σ H2 => ∃ m2 ρ S2, Ext m1 H1 m2 H2 ∧ RelS Φ m2 S2 H2 ∧ RelE Φ m2 H2 ρ σ ∧ PostS Φ W m2 H2 (forLoop (boxOf v) l (fun x ρ1 S2 => onO (store S2 tgt x ρ1) fun ρ2 => fs ρ2 S2) (l.drop i) ρ S2) D
    refine ⟨fun i k σ H2 => k = l.length - i ∧ i ≤ l.length ∧ St i σ H2, ⟨l.length, rfl, Nat.zero_le _, m1, ρ, S1, Ext.refl, s1, E.ext e1, PostS.ext e1 h⟩, ?_⟩
    rintro i k σ H2 ⟨rfl, hi2, m2, ρ, S2, e2, s2, E2, h⟩
    by_cases hlt : i < l.length
    · have hd : l.drop i = l[i] :: l.drop (i + 1) := List.drop_eq_getElem_cons hlt
      rw [hd] at h
      have h : PostS Φ W m2 H2 (if stays (boxOf v) l S2 then (match (onO (store S2 tgt l[i] ρ) fun ρ2 => fs ρ2 S2) with
        | .nx ρ1 S1 => forLoop (boxOf v) l (fun x ρ1 S2 => onO (store S2 tgt x ρ1) fun ρ2 => fs ρ2 S2) (l.drop (i + 1)) ρ1 S1
        | .ct ρ1 S1 => forLoop (boxOf v) l (fun x ρ1 S2 => onO (store S2 tgt x ρ1) fun ρ2 => fs ρ2 S2) (l.drop (i + 1)) ρ1 S1
        | .bk ρ1 S1 => .nx ρ1 S1
        | f => f) else .no) D := h
      cases hst : stays (boxOf v) l S2 with
      | false =>
        rw [hst] at h
        exact False.elim h
      | true =>
        rw [hst] at h
        obtain ⟨w1, w2, w3⟩ := wj m2 S2 H2 e2 s2 hst i
        refine .inr ⟨w1 hlt, St (i + 1), fun σ' H' q => ⟨l.length - (i + 1), by omega, rfl, by omega, q⟩, fun x H3 y => ?_⟩
        obtain ⟨e3, s3, rx⟩ := w3 _ x H3 (List.getElem?_eq_getElem hlt) y
        cases est : store S2 tgt l[i] ρ with
        | none =>
          rw [est] at h
          exact False.elim h
        | some ρ2 =>
          rw [est] at h
          refine ⟨m2, ρ, S2, l[i], ρ2, s3, E2.ext e3, rx, est, fun σ1 re1 _ => ⟨m2, ρ2, S2, s3, re1, ?_⟩⟩
          have h := PostS.ext e3 h
          have h : PostS Φ W m2 H3 (match fs ρ2 S2 with
        | .nx ρ1 S1 => forLoop (boxOf v) l (fun x ρ1 S2 => onO (store S2 tgt x ρ1) fun ρ2 => fs ρ2 S2) (l.drop (i + 1)) ρ1 S1
        | .ct ρ1 S1 => forLoop (boxOf v) l (fun x ρ1 S2 => onO (store S2 tgt x ρ1) fun ρ2 => fs ρ2 S2) (l.drop (i + 1)) ρ1 S1
        | .bk ρ1 S1 => .nx ρ1 S1
        | f => f) D := h
          cases hr2 : fs ρ2 S2 with
          | nx ρ1 S4 =>
            rw [hr2] at h
            exact fun m4 H4 σ4 e4 s4 E4 => ⟨m4, ρ1, S4, (e2.trans e3).trans e4, s4, E4, PostS.ext e4 h⟩
          | ct ρ1 S4 =>
            rw [hr2] at h
            exact fun m4 H4 σ4 e4 s4 E4 => ⟨m4, ρ1, S4, (e2.trans e3).trans e4, s4, E4, PostS.ext e4 h⟩
          | bk ρ1 S4 =>
            rw [hr2] at h
            exact h
          | rt u S4 =>
            rw [hr2] at h
            exact h
          | ex c ρ1 S4 =>
            rw [hr2] at h
            exact h
          | no =>
            rw [hr2] at h
            exact h
    · have hie : i = l.length := by omega
      rw [List.drop_eq_nil_of_le (by omega)] at h
      have h : PostS Φ W m2 H2 (if stays (boxOf v) l S2 then .nx ρ S2 else .no) D := h
      cases hst : stays (boxOf v) l S2 with
      | false =>
        rw [hst] at h
        exact False.elim h
      | true =>
        rw [hst] at h
        obtain ⟨w1, w2, w3⟩ := wj m2 S2 H2 e2 s2 hst i
        exact .inl ⟨w2 (by omega), finS h s2 E2⟩
end
end Rn
set_option maxHeartbeats 1000007
/-! The runner is right: a box is frozen; names stored side by side. -/
namespace Rn
open L2 PySem PyProof.Rows PySem.Spec

section
variable {X : Cx} {Φ : Fm} {W : WX} {m m1 : Mp} {H H1 : Hp} {S : Sto} {ρ : Env} {σ : L2.St} {pos p2 apos cpos : Pos} {f g k : Run} {tg o e c i : Expr} {es : List Expr} {t : Bool} {D : Ends} {fs gs : RunS} {st : Stmt} {sts as bs body : List Stmt}
theorem mem_setNone {n : Nat} {a : Addr} (h : some a ∈ m.set n none) : some a ∈ m := by
  rcases List.mem_or_eq_of_mem_set h with h | h
  · exact h
  · cases h
theorem Ext.kill {n : Nat} : Ext m H (m.set n none) H where
  keep := fun a o q z => ⟨q, fun w => z (mem_setNone w)⟩
  len := by rw [List.length_set]; exact Nat.le_refl _
  ix := fun j o q => by
    by_cases hj : n = j
    · subst hj
      exact .inr (List.getElem?_set_self (List.getElem?_eq_some_iff.mp q).1)
    · exact .inl (by rw [List.getElem?_set_ne hj]; exact q)
theorem RelS.kill {n : Nat} {l : List PV} (s : RelS Φ m S H) (h : getB S n = some l) : ∃ a vs, m[n]? = some (some a) ∧ RelS Φ (m.set n none) (S.set n none) H ∧ RdL Φ (m.set n none) H a vs ∧ RelPs Φ (m.set n none) H l vs := by
  obtain ⟨a, vs, h1, h2, h3, h4⟩ := s.box h
  have hn : n < m.length := (List.getElem?_eq_some_iff.mp h1).1
  refine ⟨a, vs, h1, ⟨by rw [List.length_set, List.length_set]; exact s.len, fun j b q => ?_, fun j q => ?_, fun i j b q1 q2 => ?_, s.bo⟩, ⟨h2, h4, fun z => ?_⟩, h3.ext Ext.kill⟩
  · by_cases hj : n = j
    · subst hj
      rw [List.getElem?_set_self hn] at q
      cases q
    · rw [List.getElem?_set_ne hj] at q
      obtain ⟨xs, ws, z1, z2, z3, z4⟩ := s.at_ j b q
      exact ⟨xs, ws, by rw [List.getElem?_set_ne hj]; exact z1, z2, z3.ext Ext.kill, z4⟩
  · by_cases hj : n = j
    · subst hj
      exact List.getElem?_set_self (by rw [← s.len]; exact hn)
    · rw [List.getElem?_set_ne hj] at q ⊢
      exact s.dead j q
  · have key : ∀ k, (m.set n none)[k]? = some (some b) → m[k]? = some (some b) := fun k q => by
      by_cases hk : n = k
      · subst hk
        rw [List.getElem?_set_self hn] at q
        cases q
      · rw [List.getElem?_set_ne hk] at q
        exact q
    exact s.inj i j b (key i q1) (key j q2)
  · obtain ⟨j, hj⟩ := at_of_mem z
    by_cases hk : n = j
    · subst hk
      rw [List.getElem?_set_self hn] at hj
      cases hj
    · rw [List.getElem?_set_ne hk] at hj
      exact hk (s.inj n j a h1 hj)
theorem box_val {n : Nat} {a : Addr} {v : V} (r : RelP Φ m H (.box n) v) (h : m[n]? = some (some a)) : v = .ref a := by
  simp only [RelP] at r
  obtain ⟨o, r1, r2⟩ := r
  rw [h] at r1
  cases r1
  exact r2 a rfl
def frzS (i : Nat) : RunS := fun ρ S => match ρ[i]? with
  | some (some (.box n)) => onO (getB S n) fun l => .nx (ρ.set i (some (.lst l))) (S.set n none)
  | _ => .nx ρ S
theorem pss_frzR {j : Nat} (h2 : PSs X sts (tS Φ W gs)) : PSs X sts (tS Φ W fun ρ S => (frzS j ρ S).then fun ρ1 S1 => gs ρ1 S1) := by
  refine pss_ghost h2 fun m ρ S σ H s e D h => ?_
  have same : frzS j ρ S = .nx ρ S → ∃ ρ1 S1 m1, frzS j ρ S = .nx ρ1 S1 ∧ Ext m H m1 H ∧ RelS Φ m1 S1 H ∧ RelE Φ m1 H ρ1 σ := fun q => ⟨ρ, S, m, q, Ext.refl, s, e⟩
  cases hp : ρ[j]? with
  | none => exact same (by unfold frzS; rw [hp])
  | some op =>
    cases op with
    | none => exact same (by unfold frzS; rw [hp])
    | some p =>
      cases p with
      | box n =>
        have eq : frzS j ρ S = onO (getB S n) fun l => .nx (ρ.set j (some (.lst l))) (S.set n none) := by unfold frzS; rw [hp]
        rw [eq] at h ⊢
        obtain ⟨l, el, h⟩ := onO_ok h
        rw [el]
        obtain ⟨a, vs, m1, s1, rd, rl⟩ := s.kill el
        refine ⟨_, _, m.set n none, rfl, Ext.kill, s1, ?_⟩
        obtain ⟨v, hv, rv⟩ := e.2 j _ hp
        have ev := box_val rv m1
        subst ev
        have e2 := (e.ext (Ext.kill (n := n))).set (i := j) (p := .lst l) (v := .ref a) (by
          simp only [RelP]
          exact ⟨a, vs, rfl, rd, rl⟩)
        have eσ : σ.set j (some (V.ref a)) = σ := by
          refine List.ext_getElem? fun k =>
                ?_
          by_cases hk : j = k
          · subst hk
            rw [List.getElem?_set_self (List.getElem?_eq_some_iff.mp hv).1, hv]
          · rw [List.getElem?_set_ne hk]
        rw [eσ] at e2
        exact e2
      | _ => exact same (by unfold frzS; rw [hp])
def frzE (f : Run) : Run := fun ρ S => (f ρ S).bind fun v S1 => match v with
  | .box n => withO (getB S1 n) fun l => .ok (.lst l) (S1.set n none)
  | v => .ok v S1
theorem pe_frzR (h : PE X e (tR Φ W f)) : PE X e (tR Φ W (frzE f)) := PE.of h fun σ H Q ⟨m, ρ, S, s, E, h⟩ => by
  refine chain s E h fun p S1 m1 H1 x e1 s1 E1 r1 h1 => ?_
  cases p with
  | box n =>
    have h1 : PostE Φ W m1 H1 σ (withO (getB S1 n) fun l => .ok (.lst l) (S1.set n none)) Q := h1
    obtain ⟨l, el, h1⟩ := withO_ok h1
    obtain ⟨a, vs, m1n, s2, rd, rl⟩ := s1.kill el
    have ev := box_val r1 m1n
    subst ev
    exact h1 (m1.set n none) H1 _ Ext.kill s2 (by
      simp only [RelP]
      exact ⟨a, vs, rfl, rd, rl⟩)
  | _ => exact fin h1 s1 r1

/-! ### a, b = x, y -/
theorem par_key {ta : TA} (hta : ta = tRA Φ W f) {q : PV → Env → Sto → F} {t : Tg} (s : RelS Φ m S H) (E : RelE Φ m H ρ σ) (h : PostS Φ W m H (onR ((f ρ S).bind fun r S1 => withL r fun vs => mkT vs S1) ρ fun v S1 => onO (store S1 (.tup t) v ρ) fun ρ1 => .nx ρ1 S1) D) :
    ta σ H fun xs H1 => ∃ m1 S1 l ρ1, RelS Φ m1 S1 H1 ∧ RelE Φ m1 H1 ρ σ ∧ RelPs Φ m1 H1 l xs ∧ stores S1 t l ρ = some ρ1 ∧ PostS Φ W m1 H1 (.nx ρ1 S1) D := by
  subst hta
  refine ⟨m, ρ, S, s, E, ?_⟩
  cases hr : f ρ S with
  | no =>
    rw [hr] at h
    exact h
  | ex c S1 =>
    rw [hr] at h
    exact fun cls d m1 H1 e1 s1 x1 => h cls d m1 H1 σ e1 s1 x1 (E.ext e1)
  | ok p S1 =>
    rw [hr] at h
    have h : PostS Φ W m H (onR (withL p fun vs => mkT vs S1) ρ fun v S1 => onO (store S1 (.tup t) v ρ) fun ρ1 => .nx ρ1 S1) D := h
    cases p with
    | lst l =>
      refine ⟨l, rfl, fun m1 H1 xs e1 s1 r1 => ?_⟩
      have h : PostS Φ W m H (onR (mkT l S1) ρ fun v S1 => onO (store S1 (.tup t) v ρ) fun ρ1 => .nx ρ1 S1) D := h
      unfold mkT at h
      split at h
      · obtain ⟨ρ1, e2, h⟩ := onO_ok (onR_ok h)
        exact ⟨m1, S1, l, ρ1, s1, E.ext e1, r1, e2, PostS.ext e1 h⟩
      · exact False.elim h
    | _ => exact False.elim h
theorem tRA_mono {Q Q' : List V → Hp → Prop} (k : ∀ v H, Q v H → Q' v H) (h : tRA Φ W f σ H Q) : tRA Φ W f σ H Q' := by
  obtain ⟨m, ρ, S, s, e, h⟩ := h
  refine ⟨m, ρ, S, s, e, ?_⟩
  have h : PostA Φ W m H σ (f ρ S) Q := h
  cases hr : f ρ S with
  | no => rw [hr] at h; exact h
  | ex c S1 => rw [hr] at h; exact h
  | ok p S1 =>
    rw [hr] at h
    obtain ⟨l, el, h⟩ := h
    exact ⟨l, el, fun m1 H1 v e1 s1 r1 => k v H1 (h m1 H1 v e1 s1 r1)⟩
theorem store_nm {S : Sto} {n : Nat} {p : PV} {ρ ρ1 : Env} (h : store S (.nm n) p ρ = some ρ1) : ρ1 = ρ.set n (some p) := by
  have h : (if Nat.blt n ρ.length then some (ρ.set n (some p)) else none) = some ρ1 := h
  split at h
  · cases h; rfl
  · cases h
theorem stores_cons {S : Sto} {h t : Tg} {ps : List PV} {ρ ρ1 : Env} (q : stores S (.cons h t) ps ρ = some ρ1) : ∃ p pr ρ', ps = p :: pr ∧ store S h p ρ = some ρ' ∧ stores S t pr ρ' = some ρ1 := by
  cases ps with
  | nil => cases (show (none : Option Env) = some ρ1 from q)
  | cons p pr =>
    have q : (match store S h p ρ with | some ρ' => stores S t pr ρ' | none => none) = some ρ1 := q
    cases e : store S h p ρ with
    | none =>
      rw [e] at q
      cases q
    | some ρ' =>
      rw [e] at q
      exact ⟨p, pr, ρ', rfl, e, q⟩
theorem stores_nil {S : Sto} {ps : List PV} {ρ ρ1 : Env} (q : stores S .nil ps ρ = some ρ1) : ps = [] ∧ ρ1 = ρ := by
  cases ps with
  | nil => cases (show some ρ = some ρ1 from q); exact ⟨rfl, rfl⟩
  | cons p pr => cases (show (none : Option Env) = some ρ1 from q)
theorem ps_parR {i j : Nat} {x y : Str} {a b : Expr} {px py pt : Pos} {kt k2 pt2} (hc : X.calm = true) (hN : X.N.Nodup) (hi : X.N[i]? = some x) (hj : X.N[j]? = some y) (hij : i ≠ j)
    (hx : X.env.scope.names.lookup x = some .local) (hy : X.env.scope.names.lookup y = some .local) (ha : PA X [a, b] (tRA Φ W f))
    (hw : swappedStores [.Tuple [.Name x px,
          .Name y py] kt pt] (.Tuple [a, b] k2 pt2) X.env = pure (some [x, y]))
    (hs : swapsWithSole [.Tuple [.Name x px, .Name y py] kt pt] (.Tuple [a, b] k2 pt2) pos.line X.env = pure false) :
    PS X (.Assign [.Tuple [.Name x px, .Name y py] kt pt] (.Tuple [a, b] k2 pt2) pos) (tS Φ W fun ρ S => onR ((f ρ S).bind fun r S1 => withL r fun vs => mkT vs S1) ρ fun v S1 => onO (store S1 (.tup (.cons (.nm i) (.cons (.nm j) .nil))) v ρ) fun ρ1 => .nx ρ1 S1) := by
  refine PS.of (ps_par hc hN hi hj hij hx hy ha hw hs) fun D σ H ⟨m, ρ, S, s, E, h⟩ => ?_
  refine tRA_mono (fun xs H1 q => ?_) (par_key (q := fun _ _ _ => .no) rfl s E h)
  obtain ⟨m1, S1, l, ρ1, s1, E1, r1, es, h1⟩ := q
  obtain ⟨p, pr, ρ', rfl, e1, es⟩ := stores_cons es
  obtain ⟨q, qr, ρ'', rfl, e2, es⟩ := stores_cons es
  obtain ⟨rfl, rfl⟩ := stores_nil es
  have e1 := store_nm e1
  subst e1
  have e2 := store_nm e2
  subst e2
  obtain ⟨v, w, rfl, rv, rw'⟩ := rel2 r1
  exact ⟨v, w, rfl, finS h1 s1 ((E1.set rv).set rw')⟩
theorem ps_par3R {i j l : Nat} {x y z : Str} {a b c : Expr} {px py pz pt : Pos} {kt k2 pt2} (hc : X.calm = true) (hN : X.N.Nodup) (hi : X.N[i]? = some x) (hj : X.N[j]? = some y) (hl : X.N[l]? = some z) (hij : i ≠ j) (hil : i ≠ l) (hjl : j ≠ l)
    (hx : X.env.scope.names.lookup x = some .local) (hy : X.env.scope.names.lookup y = some .local) (hz : X.env.scope.names.lookup z = some .local) (ha : PA X [a, b, c] (tRA Φ W f))
    (hw : swappedStores [.Tuple [.Name x px, .Name y py,
          .Name z pz] kt pt] (.Tuple [a, b, c] k2 pt2) X.env = pure (some [x, y, z]))
    (hs : swapsWithSole [.Tuple [.Name x px, .Name y py, .Name z pz] kt pt] (.Tuple [a, b, c] k2 pt2) pos.line X.env = pure false) :
    PS X (.Assign [.Tuple [.Name x px, .Name y py, .Name z pz] kt pt] (.Tuple [a, b, c] k2 pt2) pos) (tS Φ W fun ρ S => onR ((f ρ S).bind fun r S1 => withL r fun vs => mkT vs S1) ρ fun v S1 => onO (store S1 (.tup (.cons (.nm i) (.cons (.nm j) (.cons (.nm l) .nil)))) v ρ) fun ρ1 => .nx ρ1 S1) := by
  refine PS.of (L2.ps_par3 hc hN hi hj hl hij hil hjl hx hy hz ha hw hs) fun D σ H ⟨m, ρ, S, s, E, h⟩ => ?_
  refine tRA_mono (fun xs H1 q => ?_) (par_key (q := fun _ _ _ => .no) rfl s E h)
  obtain ⟨m1, S1, ll, ρ1, s1, E1, r1, es, h1⟩ := q
  obtain ⟨p, pr, ρ', rfl, e1, es⟩ := stores_cons es
  obtain ⟨q, qr, ρ'', rfl, e2, es⟩ := stores_cons es
  obtain ⟨u, ur, ρ3, rfl, e3, es⟩ := stores_cons es
  obtain ⟨rfl, rfl⟩ := stores_nil es
  have e1 := store_nm e1
  subst e1
  have e2 := store_nm e2
  subst e2
  have e3 := store_nm e3
  subst e3
  simp only [RelPs] at r1
  obtain ⟨v1, vr1, rfl, r1, v2, vr2, rfl, r2, v3, vr3, rfl, r3, rfl⟩ := r1
  exact ⟨v1, v2, v3, rfl, finS h1 s1 (((E1.set r1).set r2).set r3)⟩
end
end Rn
set_option maxHeartbeats 1000007
/-! The runner is right: calls. -/
namespace Rn
open L2 PySem PyProof.Rows PySem.Spec

/-- what a def promises: the runner tells its end -/
def spR (K : PySem.W.Frag) (A : Ad) (np : Nat) (run : List PV → Sto → R PV) : Sp := fun vs H Q E => ∃ (Bo : Addr → Prop) (Xr : Nat → V → Prop) (m : Mp) (S : Sto) (ps : List PV) (σ : L2.St),
  ps.length = np ∧ RelS ⟨K, A, Bo, Xr⟩ m S H ∧ RelPs ⟨K, A, Bo, Xr⟩ m H ps vs ∧ PostE ⟨K, A, Bo, Xr⟩ (fun cls d _ H' => E cls d H') m H σ (run ps S) Q

section
variable {X : Cx} {Φ : Fm} {W : WX} {m m1 m0 : Mp} {H H1 : Hp} {S S0 S1 : Sto} {ρ : Env} {σ : L2.St} {pos p2 apos cpos : Pos} {f g k : Run} {tg o e c i : Expr} {es : List Expr} {t : Bool} {D : Ends} {fs gs : RunS} {st : Stmt} {sts as bs body : List Stmt}
/-! what holds no box is told in another frame: the places that it reads are free there -/
mutual
theorem RelP.swap {B : Addr → Prop} (k : ∀ a u, H a = some u → Free Φ m a → Free (Φ.bo B) m1 a) : ∀ {p : PV} {v : V}, p.nob = true → RelP Φ m H p v → RelP (Φ.bo B) m1 H p v
  | .non, _, _, h => by simpa only [RelP] using h
  | .bl _, _, _, h => by simpa only [RelP] using h
  | .int _, _, _, h => by simpa only [RelP] using h
  | .str _, _, _, h => by simpa only [RelP] using h
  | .fn _, _, _, h => by
    simp only [RelP] at h ⊢
    exact h
  | .ty _, _, _, h => by simpa only [RelP] using h
  | .xc _ _, _, n0, h => by simp [PV.nob] at n0
  | .box n, v, n0, h => by simp [PV.nob] at n0
  | .tup l, v, n0, h => by
    simp only [RelP] at h ⊢
    obtain ⟨a, xs, h1, h2, h3⟩ := h
    refine ⟨a, xs, h1, ?_, RelPs.swap k (by simpa only [PV.nob] using n0) h3⟩
    rcases h2 with h2 | ⟨⟨o, h2, c, d⟩, f⟩
    · exact .inl h2
    · exact .inr ⟨⟨o, h2, c, d⟩, k a _ h2 f⟩
  | .lst l, v, n0, h => by
    simp only [RelP] at h ⊢
    obtain ⟨a, xs, h1, h2, h3⟩ := h
    exact ⟨a, xs, h1, ⟨h2.1, k a _ h2.1 h2.2⟩, RelPs.swap k (by simpa only [PV.nob] using n0) h3⟩
  | .klst l, v, n0, h => by
    simp only [RelP] at h ⊢
    obtain ⟨a, xs, h1, h2, h3⟩ := h
    refine ⟨a, xs, h1, ?_, RelPs.swap k (by simpa only [PV.nob] using n0) h3⟩
    rcases h2 with h2 | ⟨h2, f⟩
    · exact .inl h2
    · obtain ⟨w, hw⟩ := Rd.some h2
      exact .inr ⟨h2, k a w hw f⟩
theorem RelPs.swap {B : Addr → Prop} (k : ∀ a u, H a = some u → Free Φ m a → Free (Φ.bo B) m1 a) : ∀ {ps : List PV} {vs : List V}, PV.nobs ps = true → RelPs Φ m H ps vs → RelPs (Φ.bo B) m1 H ps vs
  | [], _, _, h => by simpa only [RelPs] using h
  | p :: ps, vs, n0, h => by
    simp only [RelPs] at h ⊢
    obtain ⟨v, vr, h1, h2, h3⟩ := h
    have n0 : (p.nob && PV.nobs ps) = true := by simpa only [PV.nobs] using n0
    exact ⟨v, vr, h1, RelP.swap k (and2 n0).1 h2, RelPs.swap k (and2 n0).2 h3⟩
end

/-! ### the lists of the store are lent -/
theorem derB_rel {p : PV} {v : V} (s : RelS Φ m S H) (n0 : (derB S p).nob = true) (r : RelP Φ m H p v) : RelP Φ [] H (derB S p) v := by
  have sw : ∀ a u, H a = some u → Free Φ m a → Free (Φ.bo Φ.Bo) [] a := fun a u _ f => ⟨f.1, fun z => nomatch z⟩
  cases p with
  | box n =>
    unfold derB at n0 ⊢
    simp only at n0 ⊢
    cases eg : getB S n with
    | none =>
      rw [eg] at n0
      simp [PV.nob] at n0
    | some l =>
      rw [eg] at n0
      obtain ⟨a, vs, rfl, h1, h2, h3⟩ := box_at s r eg
      obtain ⟨_, _, _, _, _, h4⟩ := s.at_ n a h1
      simp only [RelP]
      exact ⟨a, vs, rfl, ⟨h2, h4, fun z => nomatch z⟩, RelPs.swap (Φ := Φ) (B := Φ.Bo) sw (by simpa only [PV.nob] using n0) h3⟩
  | _ => exact RelP.swap (Φ := Φ) (B := Φ.Bo) sw n0 r
theorem ders_rel : ∀ {ps : List PV} {vs : List V}, RelS Φ m S H → PV.nobs (ders S ps) = true → RelPs Φ m H ps vs → RelPs Φ [] H (ders S ps) vs
  | [], _, _, _, h => by
    simp only [RelPs] at h
    subst h
    exact RelPs.nil
  | p :: ps, vs, s, n0, h => by
    simp only [RelPs] at h
    obtain ⟨v, vr, rfl, h2, h3⟩ := h
    have n0 : ((derB S p).nob && PV.nobs (ders S ps)) = true := by simpa only [ders, PV.nobs] using n0
    exact RelPs.cons (derB_rel s (and2 n0).1 h2) (ders_rel s (and2 n0).2 h3)
theorem flat_rel {p : PV} {v : V} {Φ' : Fm} {m' : Mp} {H' : Hp} (h : flat p = true) (r : RelP Φ m H p v) : RelP Φ' m' H' p v := by
  cases p <;> first | (simpa only [RelP] using r) | (simp [flat] at h)
theorem relS_nil {K : PySem.W.Frag} {A : Ad} {B : Addr → Prop} {R : Nat → V → Prop} (hb : ∀ a, B a → H a ≠ none) : RelS ⟨K, A, B, R⟩ [] [] H := ⟨rfl, fun n a h => (nomatch h), fun n h => (nomatch h), fun i j a h => (nomatch h), hb⟩
/-- all that stood stands -/
theorem Ext.all (k : ∀ a u, H a = some u → H1 a = some u) : Ext m H m H1 := ⟨fun a u h n => ⟨k a u h, n⟩, Nat.le_refl _, fun _ _ h => .inl h⟩
theorem RelS.all (s : RelS Φ m S H) (k : ∀ a u, H a = some u → H1 a = some u) : RelS Φ m S H1 where
  len := s.len
  at_ := fun n a e => by
    obtain ⟨xs, vs, h1, h2, h3, h4⟩ := s.at_ n a e
    exact ⟨xs, vs, h1, k a _ h2, h3.ext (Ext.all k), h4⟩
  dead := s.dead
  inj := s.inj
  bo := fun a b => by
    cases e : H a with
    | none => exact absurd e (s.bo a b)
    | some u =>
      rw [k a u e]
      exact fun z => nomatch z
theorem lend_ok {run : List PV → Sto → R PV} {vs : List PV} {xs : List V} {np : Nat} {Q : VK} (s : RelS Φ m S H) (r : RelPs Φ m H vs xs) (hl : ∀ vs S, vs.length ≠ np → run vs S = .no) (h : PostE Φ W m H σ (lend run vs S) Q) : spR Φ.K Φ.A np run xs H Q (fun cls d H' => W cls d σ H') := by
  unfold lend at h
  split at h
  · rename_i hn
    have r0 := ders_rel s hn r
    have keep : ∀ {m' H'}, Ext [] H m' H' → ∀ a u, H a = some u → H' a = some u := fun e a u q => (e.keep a u q fun z => nomatch z).1
    refine ⟨Φ.Bo, Φ.Xr, [], [], ders S vs, σ, ?_, relS_nil s.bo, r0, ?_⟩
    · cases hlen : decide ((ders S vs).length = np) with
      | true => exact of_decide_eq_true hlen
      | false =>
        rw [hl _ _ (of_decide_eq_false hlen)] at h
        exact h.elim
    · cases hr : run (ders S vs) [] with
      | no =>
        rw [hr] at h
        exact h
      | ok p S1 =>
        rw [hr] at h
        have h : PostE Φ W m H σ (if flat p then .ok p S else .no) Q := h
        split at h
        · rename_i hf
          exact fun m' H' v e1 s1 r1 => h m H' v (Ext.all (keep e1)) (s.all (keep e1)) (flat_rel hf r1)
        · exact h.elim
      | ex c S1 =>
        rw [hr] at h
        have h : PostE Φ W m H σ (if flats c.args then .ex c S else .no) Q := h
        split at h
        · rename_i hf
          refine fun cls d m' H' e1 s1 x1 => h cls d m H' (Ext.all (keep e1)) (s.all (keep e1)) ?_
          obtain ⟨z1, z2, z3⟩ := x1
          refine ⟨z1, z2, ?_⟩
          cases hc : c.args with
          | nil =>
            rw [hc] at z3
            exact z3
          | cons a l =>
            cases l with
            | cons b l =>
              rw [hc] at z3
              exact z3
            | nil =>
              rw [hc] at z3 hf
              obtain ⟨dd, v, y1, y2, y3, y4⟩ := z3
              have hf : (flat a && true) = true := hf
              refine ⟨dd, v, y1, y2, fun z => ?_, flat_rel (and2 hf).1 y4⟩
              obtain ⟨vs', q⟩ := (s.all (keep e1)).lst_at z
              rw [y2] at q
              cases q
        · exact h.elim
  · exact h.elim

/-! ### boxes are handed over -/
theorem hasN_iff (n : Nat) : ∀ l, hasN n l = true ↔ n ∈ l
  | [] => by simp [hasN]
  | a :: l => by
    have e : hasN n (a :: l) = if Nat.beq a n then true else hasN n l := rfl
    rw [e]
    by_cases h : a = n
    · rw [h, Nat.beq_refl]
      simp
    · have hb : Nat.beq a n = false := by
        cases hb : Nat.beq a n with
        | false => rfl
        | true => exact absurd (Nat.eq_of_beq_eq_true hb) h
      rw [hb]
      simp only [Bool.false_eq_true, if_false, List.mem_cons]
      rw [hasN_iff n l]
      exact ⟨.inr, fun z => z.elim (fun q => absurd q.symm h) id⟩
theorem nodup_cons {n : Nat} {l : List Nat} (h : nodup (n :: l) = true) : n ∉ l ∧ nodup l = true := by
  have h : (!hasN n l && nodup l) = true := h
  obtain ⟨h1, h2⟩ := and2 h
  refine ⟨fun z => ?_, h2⟩
  rw [(hasN_iff n l).mpr z] at h1
  cases h1
theorem nodup_get : ∀ {l : List Nat} {i j n : Nat}, nodup l = true → l[i]? = some n → l[j]? = some n → i = j
  | [], i, j, n, _, h, _ => by simp at h
  | a :: l, i, j, n, h, h1, h2 => by
    obtain ⟨q1, q2⟩ := nodup_cons h
    cases i with
    | zero =>
      cases j with
      | zero => rfl
      | succ j =>
        have e : a = n := by simpa using h1
        exact absurd (List.mem_of_getElem? (by simpa using h2)) (by rw [← e]; exact q1)
    | succ i =>
      cases j with
      | zero =>
        have e : a = n := by simpa using h2
        exact absurd (List.mem_of_getElem? (by simpa using h1)) (by rw [← e]; exact q1)
      | succ j => exact congrArg (· + 1) (nodup_get (n := n) q2 (by simpa using h1) (by simpa using h2))
def pb {α : Type} (S : List α) : List Nat → List α → List α
  | [], _ => S
  | _, [] => S
  | n :: r, l :: ls => pb (S.set n l) r ls
theorem pb_eq : ∀ (bs : List Nat) (S S1 : Sto), putBack S bs S1 = pb S bs S1
  | [], _, [] => rfl
  | [], _, _ :: _ => rfl
  | _ :: _, _, [] => rfl
  | n :: r, S, l :: ls => pb_eq r (S.set n l) ls
theorem pb_len {α : Type} : ∀ (bs : List Nat) (S ls : List α), (pb S bs ls).length = S.length
  | [], _, [] => rfl
  | [], _, _ :: _ => rfl
  | _ :: _, _, [] => rfl
  | n :: r, S, l :: ls => by
    show (pb (S.set n l) r ls).length = _
    rw [pb_len r, List.length_set]
theorem pb_out {α : Type} {j : Nat} : ∀ {bs : List Nat} {S ls : List α}, j ∉ bs → (pb S bs ls)[j]? = S[j]?
  | [], _, [], _ => rfl
  | [], _, _ :: _, _ => rfl
  | _ :: _, _, [], _ => rfl
  | n :: r, S, l :: ls, h => by
    show (pb (S.set n l) r ls)[j]? = _
    rw [pb_out fun z => h (List.mem_cons_of_mem _ z), List.getElem?_set_ne fun z => h (by rw [z]; exact List.mem_cons_self ..)]
theorem pb_in {α : Type} {x : α} : ∀ {bs : List Nat} {S ls : List α} {i n : Nat}, nodup bs = true → bs[i]? = some n → n < S.length → ls[i]? = some x → (pb S bs ls)[n]? = some x
  | [], _, _, i, n, _, h, _, _ => by simp at h
  | _ :: _, _, [], i, n, _, _, _, h => by simp at h
  | b :: r, S, l :: ls, i, n, hd, h, hn, hx => by
    obtain ⟨q1, q2⟩ := nodup_cons hd
    show (pb (S.set b l) r ls)[n]? = _
    cases i with
    | zero =>
      have e : b = n := by simpa using h
      have e2 : l = x := by simpa using hx
      subst e e2
      rw [pb_out q1, List.getElem?_set_self hn]
    | succ i => exact pb_in q2 (by simpa using h) (by rw [List.length_set]; exact hn) (by simpa using hx)
theorem grab_get : ∀ {bs : List Nat} {S S0 : Sto}, grab S bs = some S0 → S0.length = bs.length ∧ ∀ (i n : Nat), bs[i]? = some n → ∃ l, S0[i]? = some (some l) ∧ getB S n = some l
  | [], S, S0, h => by
    have h : some [] = some S0 := h
    cases h
    exact ⟨rfl, fun i n q => by simp at q⟩
  | b :: r, S, S0, h => by
    have h : (match getB S b, grab S r with | some l, some ls => some (some l :: ls) | _, _ => none) = some S0 := h
    cases e1 : getB S b with
    | none =>
      rw [e1] at h
      cases h
    | some l =>
      cases e2 : grab S r with
      | none =>
        rw [e1, e2] at h
        cases h
      | some ls =>
        rw [e1, e2] at h
        cases h
        obtain ⟨h1, h2⟩ := grab_get e2
        refine ⟨by rw [List.length_cons, List.length_cons, h1], fun i n q => ?_⟩
        cases i with
        | zero =>
          have e : b = n := by simpa using q
          subst e
          exact ⟨l, rfl, e1⟩
        | succ i =>
          obtain ⟨l', q1, q2⟩ := h2 i n (by simpa using q)
          exact ⟨l', by simpa using q1, q2⟩
theorem plainS_get : ∀ {S : Sto} {i : Nat} {l : List PV}, plainS S = true → S[i]? = some (some l) → PV.nobs l = true
  | [], i, l, _, h => by simp at h
  | o :: S, i, l, h, e => by
    cases o with
    | none =>
      have h : plainS S = true := h
      cases i with
      | zero => simp at e
      | succ i => exact plainS_get h (by simpa using e)
    | some l' =>
      have h : (PV.nobs l' && plainS S) = true := h
      obtain ⟨h1, h2⟩ := and2 h
      cases i with
      | zero =>
        have e : l' = l := by simpa using e
        rw [← e]
        exact h1
      | succ i => exact plainS_get h2 (by simpa using e)
/-- where the handed boxes lie -/
def m0of (m : Mp) (bs : List Nat) : Mp := bs.map fun n => (m[n]?).getD none
theorem m0_get {bs : List Nat} {i n : Nat} {o : Option Addr} (h : bs[i]? = some n) (hm : m[n]? = some o) : (m0of m bs)[i]? = some o := by
  unfold m0of
  rw [List.getElem?_map, h]
  show some ((m[n]?).getD none) = some o
  rw [hm]
  rfl
theorem m0_mem {bs : List Nat} {a : Addr} (h : some a ∈ m0of m bs) : ∃ (i n : Nat), bs[i]? = some n ∧ m[n]? = some (some a) := by
  obtain ⟨i, hi⟩ := at_of_mem h
  unfold m0of at hi
  rw [List.getElem?_map] at hi
  cases hb : bs[i]? with
  | none =>
    rw [hb] at hi
    cases hi
  | some n =>
    rw [hb] at hi
    have hi : some ((m[n]?).getD none) = some (some a) := hi
    cases hm : m[n]? with
    | none =>
      rw [hm] at hi
      cases hi
    | some o =>
      rw [hm] at hi
      cases hi
      exact ⟨i, n, hb, hm⟩
theorem renum_rel {B : Addr → Prop} {m0 : Mp} (sw : ∀ a u, H a = some u → Free Φ m a → Free (Φ.bo B) m0 a) : ∀ {vs : List PV} {xs : List V} {k : Nat}, okArgs vs = true → (∀ (i n : Nat), (boxes vs)[i]? = some n → ∀ o, m[n]? = some o → m0[k + i]? = some o) → RelPs Φ m H vs xs → RelPs (Φ.bo B) m0 H (renum k vs) xs
  | [], xs, k, _, _, h => by
    simp only [RelPs] at h
    subst h
    exact RelPs.nil
  | p :: vs, xs, k, ok, hm, h => by
    simp only [RelPs] at h
    obtain ⟨v, vr, rfl, h2, h3⟩ := h
    have other : (p.nob && okArgs vs) = true → boxes (p :: vs) = boxes vs → renum k (p :: vs) = p :: renum k vs → RelPs (Φ.bo B) m0 H (renum k (p :: vs)) (v :: vr) := fun z e1 e2 => by
      rw [e2]
      exact RelPs.cons (RelP.swap sw (and2 z).1 h2) (renum_rel sw (and2 z).2 (fun i n q => hm i n (by rw [e1]; exact q)) h3)
    cases p with
    | box n =>
      have ok : okArgs vs = true := ok
      show RelPs (Φ.bo B) m0 H (.box k :: renum (k + 1) vs) (v :: vr)
      refine RelPs.cons ?_ (renum_rel sw ok (fun i j q o qo => ?_) h3)
      · simp only [RelP] at h2 ⊢
        obtain ⟨o, r1, r2⟩ := h2
        exact ⟨o, by simpa using hm 0 n rfl o r1, r2⟩
      · have := hm (i + 1) j (by simpa [boxes] using q) o qo
        rw [show k + 1 + i = k + (i + 1) by omega]
        exact this
    | non => exact other ok rfl rfl
    | bl b => exact other ok rfl rfl
    | int i => exact other ok rfl rfl
    | str z => exact other ok rfl rfl
    | tup l => exact other ok rfl rfl
    | lst l => exact other ok rfl rfl
    | klst l => exact other ok rfl rfl
    | fn f => exact other ok rfl rfl
    | ty t => exact other ok rfl rfl
    | xc c l => exact other ok rfl rfl
theorem renum_len : ∀ (vs : List PV) (k : Nat), (renum k vs).length = vs.length
  | [], _ => rfl
  | p :: vs, k => by
    cases p <;> (show (renum _ vs).length + 1 = vs.length + 1; rw [renum_len])

/-- the frame of a callee: what it may not touch -/
def callBo (Φ : Fm) (m : Mp) (bs : List Nat) : Addr → Prop := fun a => Φ.Bo a ∨ (some a ∈ m ∧ some a ∉ m0of m bs)
section
variable {bs : List Nat} (s : RelS Φ m S H) (hd : nodup bs = true) (hg : grab S bs = some S0)
include s hd hg
theorem call_at {i n : Nat} (h : bs[i]? = some n) : ∃ l a ws, S0[i]? = some (some l) ∧ getB S n = some l ∧ m[n]? = some (some a) ∧ H a = some (.lst ws) ∧ RelPs Φ m H l ws ∧ ¬ Φ.Bo a := by
  obtain ⟨l, h1, h2⟩ := (grab_get hg).2 i n h
  obtain ⟨a, ws, q1, q2, q3, q4⟩ := s.box h2
  exact ⟨l, a, ws, h1, h2, q1, q2, q3, q4⟩
theorem call_sw : ∀ a u, H a = some u → Free Φ m a → Free (Φ.bo (callBo Φ m bs)) (m0of m bs) a := fun a u e f => ⟨fun z => by
  rcases z with z | z
  · exact f.1 z
  · exact f.2 z.1, fun z => by
  obtain ⟨i, n, _, q⟩ := m0_mem z
  exact f.2 (mem_of_at q)⟩
theorem call_S (hp : plainS S0 = true) : RelS (Φ.bo (callBo Φ m bs)) (m0of m bs) S0 H where
  len := by
    rw [(grab_get hg).1]
    exact List.length_map _
  at_ := fun i a e => by
    obtain ⟨i', n, q1, q2⟩ := m0_mem (mem_of_at e)
    have hi : i < bs.length := by
      have := (List.getElem?_eq_some_iff.mp e).1
      rw [show (m0of m bs).length = bs.length from List.length_map _] at this
      exact this
    have hn : bs[i]? = some bs[i] := List.getElem?_eq_getElem hi
    obtain ⟨l, a', ws, z1, z2, z3, z4, z5, z6⟩ := call_at s hd hg hn
    rw [m0_get hn z3] at e
    cases e
    refine ⟨l, ws, z1, z4, RelPs.swap (call_sw s hd hg) (plainS_get hp z1) z5, fun z => ?_⟩
    rcases z with z | z
    · exact z6 z
    · exact z.2 (mem_of_at (m0_get hn z3))
  dead := fun i e => by
    have hi : i < bs.length := by
      have := (List.getElem?_eq_some_iff.mp e).1
      rw [show (m0of m bs).length = bs.length from List.length_map _] at this
      exact this
    have hn : bs[i]? = some bs[i] := List.getElem?_eq_getElem hi
    obtain ⟨l, a', ws, z1, z2, z3, z4, z5, z6⟩ := call_at s hd hg hn
    rw [m0_get hn z3] at e
    cases e
  inj := fun i j a e1 e2 => by
    have key : ∀ i, (m0of m bs)[i]? = some (some a) → ∃ n, bs[i]? = some n ∧ m[n]? = some (some a) := fun i e => by
      have hi : i < bs.length := by
        have := (List.getElem?_eq_some_iff.mp e).1
        rw [show (m0of m bs).length = bs.length from List.length_map _] at this
        exact this
      have hn : bs[i]? = some bs[i] := List.getElem?_eq_getElem hi
      obtain ⟨l, a', ws, z1, z2, z3, z4, z5, z6⟩ := call_at s hd hg hn
      rw [m0_get hn z3] at e
      cases e
      exact ⟨_, hn, z3⟩
    obtain ⟨n1, q1, q2⟩ := key i e1
    obtain ⟨n2, q3, q4⟩ := key j e2
    have := s.inj n1 n2 a q2 q4
    subst this
    exact nodup_get hd q1 q3
  bo := fun a b => by
    rcases b with b | b
    · exact s.bo a b
    · obtain ⟨vs, e⟩ := s.lst_at b.1
      rw [e]
      exact fun z => nomatch z
end
end
end Rn
set_option maxHeartbeats 1000007
/-! The runner is right: calls. -/
namespace Rn
open L2 PySem PyProof.Rows PySem.Spec

section
variable {X : Cx} {Φ : Fm} {W : WX} {m m1 m0 : Mp} {H H1 : Hp} {S S0 S1 : Sto} {ρ : Env} {σ : L2.St} {bs : List Nat}
theorem m0_len : (m0of m bs).length = bs.length := List.length_map _
section
variable (s : RelS Φ m S H) (hd : nodup bs = true) (hg : grab S bs = some S0) (e1 : Ext (m0of m bs) H m1 H1) (s1 : RelS (Φ.bo (callBo Φ m bs)) m1 S1 H1)
include s hd hg e1 s1
theorem back_at {j : Nat} {a : Addr} (h : (pb m bs m1)[j]? = some (some a)) : (∃ i : Nat, bs[i]? = some j ∧ m1[i]? = some (some a)) ∨ (j ∉ bs ∧ m[j]? = some (some a) ∧ some a ∉ m0of m bs) := by
  by_cases hj : j ∈ bs
  · obtain ⟨i, hi, e⟩ := List.getElem_of_mem hj
    have hb : bs[i]? = some j := by rw [List.getElem?_eq_getElem hi, e]
    have hl : i < m1.length := Nat.lt_of_lt_of_le (by rw [m0_len]; exact hi) e1.len
    obtain ⟨l, b, ws, z1, z2, z3, z4, z5, z6⟩ := call_at s hd hg hb
    have hx : m1[i]? = some m1[i] := List.getElem?_eq_getElem hl
    rw [pb_in hd hb (List.getElem?_eq_some_iff.mp z3).1 hx] at h
    exact .inl ⟨i, hb, by rw [hx]; exact h⟩
  · rw [pb_out hj] at h
    refine .inr ⟨hj, h, fun z => ?_⟩
    obtain ⟨i, n, q1, q2⟩ := m0_mem z
    have := s.inj j n a h q2
    subst this
    exact hj (List.mem_of_getElem? q1)
theorem back_mem {a : Addr} (h : some a ∈ pb m bs m1) : some a ∈ m1 ∨ (some a ∈ m ∧ some a ∉ m0of m bs) := by
  obtain ⟨j, hj⟩ := at_of_mem h
  rcases back_at s hd hg e1 s1 hj with ⟨i, _, q⟩ | ⟨_, q, z⟩
  · exact .inl (mem_of_at q)
  · exact .inr ⟨mem_of_at q, z⟩
theorem back_sw : ∀ a u, H1 a = some u → Free (Φ.bo (callBo Φ m bs)) m1 a → Free ((Φ.bo (callBo Φ m bs)).bo Φ.Bo) (pb m bs m1) a := fun a u _ f => ⟨fun z => f.1 (.inl z), fun z => by
  rcases back_mem s hd hg e1 s1 z with z | z
  · exact f.2 z
  · exact f.1 (.inr z)⟩
theorem back_E : Ext m H (pb m bs m1) H1 where
  keep := fun a o q n => by
    have n0 : some a ∉ m0of m bs := fun z => by
      obtain ⟨i, j, q1, q2⟩ := m0_mem z
      exact n (mem_of_at q2)
    obtain ⟨h1, h2⟩ := e1.keep a o q n0
    refine ⟨h1, fun z => ?_⟩
    rcases back_mem s hd hg e1 s1 z with z | z
    · exact h2 z
    · exact n z.1
  len := by rw [pb_len]; exact Nat.le_refl _
  ix := fun j o q => by
    by_cases hj : j ∈ bs
    · obtain ⟨i, hi, e⟩ := List.getElem_of_mem hj
      have hb : bs[i]? = some j := by rw [List.getElem?_eq_getElem hi, e]
      have hl : i < m1.length := Nat.lt_of_lt_of_le (by rw [m0_len]; exact hi) e1.len
      have hx : m1[i]? = some m1[i] := List.getElem?_eq_getElem hl
      rw [pb_in hd hb (List.getElem?_eq_some_iff.mp q).1 hx]
      have := e1.ix i o (m0_get hb q)
      rw [hx] at this
      exact this
    · exact .inl (by rw [pb_out hj]; exact q)
theorem back_S (hp : plainS (S1.take bs.length) = true) : RelS Φ (pb m bs m1) (pb S bs S1) H1 where
  len := by rw [pb_len, pb_len]; exact s.len
  at_ := fun j a q => by
    rcases back_at s hd hg e1 s1 q with ⟨i, hb, q1⟩ | ⟨hj, q1, n0⟩
    · obtain ⟨xs, vs, z1, z2, z3, z4⟩ := s1.at_ i a q1
      obtain ⟨l, b, ws, y1, y2, y3, y4, y5, y6⟩ := call_at s hd hg hb
      have hjS : j < S.length := by rw [← s.len]; exact (List.getElem?_eq_some_iff.mp y3).1
      have hi : i < bs.length := (List.getElem?_eq_some_iff.mp hb).1
      have nb : PV.nobs xs = true := plainS_get hp (by rw [List.getElem?_take_of_lt hi]; exact z1)
      exact ⟨xs, vs, pb_in hd hb hjS z1, z2, RelPs.swap (Φ := Φ.bo (callBo Φ m bs)) (B := Φ.Bo) (back_sw s hd hg e1 s1) nb z3, fun z => z4 (.inl z)⟩
    · obtain ⟨xs, vs, z1, z2, z3, z4⟩ := s.at_ j a q1
      exact ⟨xs, vs, by rw [pb_out hj]; exact z1, (e1.keep a _ z2 n0).1, z3.ext (back_E s hd hg e1 s1), z4⟩
  dead := fun j q => by
    by_cases hj : j ∈ bs
    · obtain ⟨i, hi, e⟩ := List.getElem_of_mem hj
      have hb : bs[i]? = some j := by rw [List.getElem?_eq_getElem hi, e]
      have hl : i < m1.length := Nat.lt_of_lt_of_le (by rw [m0_len]; exact hi) e1.len
      have hx : m1[i]? = some m1[i] := List.getElem?_eq_getElem hl
      obtain ⟨l, b, ws, y1, y2, y3, y4, y5, y6⟩ := call_at s hd hg hb
      rw [pb_in hd hb (List.getElem?_eq_some_iff.mp y3).1 hx] at q
      have q1 := s1.dead i (by rw [hx]; exact q)
      have hjS : j < S.length := by rw [← s.len]; exact (List.getElem?_eq_some_iff.mp y3).1
      exact pb_in hd hb hjS q1
    · rw [pb_out hj] at q ⊢
      exact s.dead j q
  inj := fun i j a q1 q2 => by
    rcases back_at s hd hg e1 s1 q1 with ⟨i', hb, z1⟩ | ⟨hj, z1, n0⟩ <;> rcases back_at s hd hg e1 s1 q2 with ⟨j', hb', z2⟩ | ⟨hj', z2, n0'⟩
    · have := s1.inj i' j' a z1 z2
      subst this
      rw [hb] at hb'
      cases hb'
      rfl
    · obtain ⟨_, _, _, _, _, z4⟩ := s1.at_ i' a z1
      exact absurd (Or.inr ⟨mem_of_at z2, n0'⟩) z4
    · obtain ⟨_, _, _, _, _, z4⟩ := s1.at_ j' a z2
      exact absurd (Or.inr ⟨mem_of_at z1, n0⟩) z4
    · exact s.inj i j a z1 z2
  bo := fun a b => s1.bo a (.inl b)
/-- a new box comes back, too -/
theorem back_N {n : Nat} {a : Addr} {l : List PV} {ws : List V} (hp : plainS (S1.take bs.length) = true) (hn : bs[n]? = none) (q1 : m1[n]? = some (some a)) (q2 : H1 a = some (.lst ws)) (q3 : RelPs (Φ.bo (callBo Φ m bs)) m1 H1 l ws) (nb : PV.nobs l = true) :
    Ext m H (pb m bs m1 ++ [some a]) H1 ∧ RelS Φ (pb m bs m1 ++ [some a]) (pb S bs S1 ++ [some l]) H1 := by
  have E := back_E s hd hg e1 s1
  have B := back_S s hd hg e1 s1 hp
  obtain ⟨_, _, _, _, _, q4⟩ := s1.at_ n a q1
  have na : some a ∉ pb m bs m1 := fun z => by
    obtain ⟨j, hj⟩ := at_of_mem z
    rcases back_at s hd hg e1 s1 hj with ⟨i, y1, y2⟩ | ⟨y0, y1, y2⟩
    · have := s1.inj i n a y2 q1
      subst this
      rw [hn] at y1
      cases y1
    · exact q4 (.inr ⟨mem_of_at y1, y2⟩)
  have E2 : Ext m H (pb m bs m1 ++ [some a]) H1 := ⟨fun x o q n => by
    obtain ⟨h1, h2⟩ := E.keep x o q n
    refine ⟨h1, fun z => ?_⟩
    rcases List.mem_append.mp z with z | z
    · exact h2 z
    · have ex : x = a := by simpa using z
      subst ex
      have n0 : some x ∉ m0of m bs := fun z => by
        obtain ⟨i, j, q1, q2⟩ := m0_mem z
        exact n (mem_of_at q2)
      exact (e1.keep x o q n0).2 (mem_of_at q1), by
    rw [List.length_append]
    exact Nat.le_trans E.len (Nat.le_add_right _ _), fun j o q => by
    rcases E.ix j o q with z | z
    · exact .inl (by rw [List.getElem?_append_left (List.getElem?_eq_some_iff.mp z).1]; exact z)
    · exact .inr (by rw [List.getElem?_append_left (List.getElem?_eq_some_iff.mp z).1]; exact z)⟩
  have sw : ∀ x u, H1 x = some u → Free (Φ.bo (callBo Φ m bs)) m1 x → Free ((Φ.bo (callBo Φ m bs)).bo Φ.Bo) (pb m bs m1 ++ [some a]) x := fun x u hx f => by
    obtain ⟨f1, f2⟩ := back_sw s hd hg e1 s1 x u hx f
    refine ⟨f1, fun z => ?_⟩
    rcases List.mem_append.mp z with z | z
    · exact f2 z
    · have ex : x = a := by simpa using z
      subst ex
      exact f.2 (mem_of_at q1)
  have hl : (pb m bs m1).length = (pb S bs S1).length := B.len
  have split : ∀ (j : Nat) (o : Option Addr), (pb m bs m1 ++ [some a])[j]? = some o → (j < (pb m bs m1).length ∧ (pb m bs m1)[j]? = some o) ∨ (j = (pb m bs m1).length ∧ o = some a) := fun j o q => by
    by_cases hj : j < (pb m bs m1).length
    · rw [List.getElem?_append_left hj] at q
      exact .inl ⟨hj, q⟩
    · rw [List.getElem?_append_right (Nat.le_of_not_lt hj)] at q
      have hz : j - (pb m bs m1).length = 0 := by
        have := (List.getElem?_eq_some_iff.mp q).1
        simp only [List.length_singleton] at this
        omega
      rw [hz] at q
      have e' : some a = o := by simpa using q
      exact .inr ⟨by omega, e'.symm⟩
  refine ⟨E2, ⟨by rw [List.length_append, List.length_append, hl]; rfl, fun j b q => ?_, fun j q => ?_, fun i j b z1 z2 => ?_, B.bo⟩⟩
  · rcases split j _ q with ⟨hj, q⟩ | ⟨hj, e⟩
    · rcases back_at s hd hg e1 s1 q with ⟨i, hb, y1⟩ | ⟨hj', y1, n0⟩
      · obtain ⟨xs, vs, w1, w2, w3, w4⟩ := s1.at_ i b y1
        obtain ⟨l', b', ws', y1', y2', y3', y4', y5', y6'⟩ := call_at s hd hg hb
        have hjS : j < S.length := by rw [← s.len]; exact (List.getElem?_eq_some_iff.mp y3').1
        have hi : i < bs.length := (List.getElem?_eq_some_iff.mp hb).1
        have nb : PV.nobs xs = true := plainS_get hp (by rw [List.getElem?_take_of_lt hi]; exact w1)
        refine ⟨xs, vs, ?_, w2, RelPs.swap (Φ := Φ.bo (callBo Φ m bs)) (B := Φ.Bo) sw nb w3, fun z => w4 (.inl z)⟩
        rw [List.getElem?_append_left (by rw [← hl]; exact hj)]
        exact pb_in hd hb hjS w1
      · obtain ⟨xs, vs, w1, w2, w3, w4⟩ := s.at_ j b y1
        refine ⟨xs, vs, ?_, (e1.keep b _ w2 n0).1, w3.ext E2, w4⟩
        rw [List.getElem?_append_left (by rw [← hl]; exact hj), pb_out hj']
        exact w1
    · cases e
      refine ⟨l, ws, ?_, q2, RelPs.swap (Φ := Φ.bo (callBo Φ m bs)) (B := Φ.Bo) sw nb q3, fun z => q4 (.inl z)⟩
      rw [hj, hl, List.getElem?_append_right (Nat.le_refl _), Nat.sub_self]
      rfl
  · rcases split j _ q with ⟨hj, q⟩ | ⟨hj, e⟩
    · rw [List.getElem?_append_left (by rw [← hl]; exact hj)]
      exact B.dead j q
    · cases e
  · rcases split i _ z1 with ⟨hi, y1⟩ | ⟨hi, y1⟩ <;> rcases split j _ z2 with ⟨hj, y2⟩ | ⟨hj, y2⟩
    · exact B.inj i j b y1 y2
    · cases y2
      exact absurd (mem_of_at y1) na
    · cases y1
      exact absurd (mem_of_at y2) na
    · rw [hi, hj]
end
theorem invoke_ok {run : List PV → Sto → R PV} {vs : List PV} {xs : List V} {np : Nat} {Q : VK} (s : RelS Φ m S H) (r : RelPs Φ m H vs xs) (hl : ∀ vs S, vs.length ≠ np → run vs S = .no) (h : PostE Φ W m H σ (invoke run vs S) Q) : spR Φ.K Φ.A np run xs H Q (fun cls d H' => W cls d σ H') := by
  unfold invoke at h
  split at h
  · rename_i hn
    obtain ⟨hd, hok⟩ := and2 hn
    cases hg : grab S (boxes vs) with
    | none =>
      rw [hg] at h
      exact h.elim
    | some S0 =>
      rw [hg] at h
      have h : PostE Φ W m H σ (if plainS S0 then match run (renum 0 vs) S0 with
        | .ok v S1 => if plainS (S1.take (boxes vs).length) then giveBack (boxes vs) v (putBack S (boxes vs) S1) S1 else .no
        | .ex c S1 => if PV.nobs c.args && plainS (S1.take (boxes vs).length) then .ex c (putBack S (boxes vs) S1) else .no
        | .no => .no else .no) Q := h
      split at h
      · rename_i hp
        have r0 : RelPs (Φ.bo (callBo Φ m (boxes vs))) (m0of m (boxes vs)) H (renum 0 vs) xs := renum_rel (call_sw s hd hg) hok (fun i n q o qo => by rw [Nat.zero_add]; exact m0_get q qo) r
        refine ⟨callBo Φ m (boxes vs), Φ.Xr, m0of m (boxes vs), S0, renum 0 vs, σ, ?_, call_S s hd hg hp, r0, ?_⟩
        · cases hlen : decide ((renum 0 vs).length = np) with
          | true => exact of_decide_eq_true hlen
          | false =>
            rw [hl _ _ (of_decide_eq_false hlen)] at h
            exact h.elim
        · cases hr : run (renum 0 vs) S0 with
          | no =>
            rw [hr] at h
            exact h
          | ok p S1 =>
            rw [hr] at h
            have h : PostE Φ W m H σ (if plainS (S1.take (boxes vs).length) then giveBack (boxes vs) p (putBack S (boxes vs) S1) S1 else .no) Q := h
            split at h
            · rename_i hp1
              intro m1 H1 v e1 s1 r1
              have E := back_E s hd hg e1 s1
              have B := back_S s hd hg e1 s1 hp1
              have sw := back_sw s hd hg e1 s1
              rw [pb_eq] at h
              have h0 := h
              have h := PostE.ext E h
              have plain : p.nob = true → giveBack (boxes vs) p (pb S (boxes vs) S1) S1 = .ok p (pb S (boxes vs) S1) → Q v H1 := fun z e => by
                rw [e] at h
                exact fin h B (RelP.swap (Φ := Φ.bo (callBo Φ m (boxes vs))) (B := Φ.Bo) sw z r1)
              have other : giveBack (boxes vs) p (pb S (boxes vs) S1) S1 = (if p.nob then .ok p (pb S (boxes vs) S1) else .no) → Q v H1 := fun e => by
                cases hz : p.nob with
                | true => exact plain hz (by rw [e, hz]; rfl)
                | false =>
                  rw [e, hz] at h
                  exact h.elim
              cases p with
              | box n =>
                have h0 : PostE Φ W m H σ (match (boxes vs)[n]? with
                  | some b => .ok (.box b) (pb S (boxes vs) S1)
                  | none => match getB S1 n with
                    | some l => if PV.nobs l then .ok (.box (pb S (boxes vs) S1).length) (pb S (boxes vs) S1 ++ [some l]) else .no
                    | none => .no) Q := h0
                have h : PostE Φ W (pb m (boxes vs) m1) H1 σ (match (boxes vs)[n]? with
                  | some b => .ok (.box b) (pb S (boxes vs) S1)
                  | none => match getB S1 n with
                    | some l => if PV.nobs l then .ok (.box (pb S (boxes vs) S1).length) (pb S (boxes vs) S1 ++ [some l]) else .no
                    | none => .no) Q := h
                cases hb : (boxes vs)[n]? with
                | some b =>
                  rw [hb] at h
                  refine fin h B ?_
                  simp only [RelP] at r1 ⊢
                  obtain ⟨o, z1, z2⟩ := r1
                  obtain ⟨l, a, ws, y1, y2, y3, y4, y5, y6⟩ := call_at s hd hg hb
                  exact ⟨o, pb_in hd hb (List.getElem?_eq_some_iff.mp y3).1 z1, z2⟩
                | none =>
                  rw [hb] at h h0
                  cases eg : getB S1 n with
                  | none =>
                    rw [eg] at h
                    exact h.elim
                  | some l =>
                    rw [eg] at h h0
                    have h0 : PostE Φ W m H σ (if PV.nobs l then .ok (.box (pb S (boxes vs) S1).length) (pb S (boxes vs) S1 ++ [some l]) else .no) Q := h0
                    have h : PostE Φ W (pb m (boxes vs) m1) H1 σ (if PV.nobs l then .ok (.box (pb S (boxes vs) S1).length) (pb S (boxes vs) S1 ++ [some l]) else .no) Q := h
                    split at h
                    · rename_i nb
                      rw [if_pos nb] at h0
                      obtain ⟨a, ws, rfl, q1, q2, q3⟩ := box_at s1 r1 eg
                      obtain ⟨E2, B2⟩ := back_N s hd hg e1 s1 hp1 hb q1 q2 q3 nb
                      exact h0 _ H1 _ E2 B2 (by
                        simp only [RelP]
                        refine ⟨some a, ?_, fun b z => by cases z; rfl⟩
                        rw [← B.len, List.getElem?_append_right (Nat.le_refl _), Nat.sub_self]
                        rfl)
                    · exact h.elim
              | non => exact other rfl
              | bl b => exact other rfl
              | int i => exact other rfl
              | str z => exact other rfl
              | tup l => exact other rfl
              | lst l => exact other rfl
              | klst l => exact other rfl
              | fn f => exact other rfl
              | ty t => exact other rfl
              | xc c l => exact other rfl
            · exact h.elim
          | ex c S1 =>
            rw [hr] at h
            have h : PostE Φ W m H σ (if PV.nobs c.args && plainS (S1.take (boxes vs).length) then .ex c (putBack S (boxes vs) S1) else .no) Q := h
            split at h
            · rename_i hz
              obtain ⟨nb, hp1⟩ := and2 hz
              rw [pb_eq] at h
              intro cls d m1 H1 e1 s1 x1
              have E := back_E s hd hg e1 s1
              have B := back_S s hd hg e1 s1 hp1
              have sw := back_sw s hd hg e1 s1
              refine h cls d _ H1 E B ?_
              obtain ⟨z1, z2, z3⟩ := x1
              refine ⟨z1, z2, ?_⟩
              cases hc : c.args with
              | nil =>
                rw [hc] at z3
                exact z3
              | cons a l =>
                cases l with
                | cons b l =>
                  rw [hc] at z3
                  exact z3
                | nil =>
                  rw [hc] at z3 nb
                  obtain ⟨dd, v, y1, y2, y3, y4⟩ := z3
                  have nb : (a.nob && true) = true := nb
                  refine ⟨dd, v, y1, y2, fun z => ?_, RelP.swap (Φ := Φ.bo (callBo Φ m (boxes vs))) (B := Φ.Bo) sw (and2 nb).1 y4⟩
                  obtain ⟨vs', q⟩ := B.lst_at z
                  rw [y2] at q
                  cases q
            · exact h.elim
      · exact h.elim
  · exact h.elim
end
end Rn
set_option maxHeartbeats 1000007
/-! The runner is right: calls of defs. -/
namespace Rn
open L2 PySem PyProof.Rows PySem.Spec

section
variable {X : Cx} {Φ : Fm} {W : WX} {m m1 m0 : Mp} {H H1 : Hp} {S S0 S1 : Sto} {ρ : Env} {σ : L2.St} {pos p2 : Pos} {f g : Run} {e : Expr} {es : List Expr} {k : Nat} {fd : FuncData} {ps : List Str} {a : Addr} {x : Str} {run : List PV → Sto → R PV} {np : Nat}
theorem pe_callR (F : FnOk X.prog X.w X.K X.mg X.base (L2.CX X.prog X.w) k a fd ps (spR Φ.K Φ.A np run)) (hl : ∀ vs S, vs.length ≠ np → run vs S = .no) (hr : Room k X.A) (hg : Gl X x) (hm : X.mg x = some (.ref a)) (hk : PySem.W.keepIn X.K (.ref a) = true) (hb : Binds X.K fd ps []) (tk : Takes X W)
    (hp : plainE e = true) (hps : plainEs es = true) (hd : (x == ("__debug__" : Str)) = false) (ha : PA X (e :: es) (tRA Φ W f)) :
    PE X (.Call (.Name x p2) (e :: es) [] pos) (tR Φ W fun ρ S => (f ρ S).bind fun r S1 => withL r fun vs => invoke run vs S1) :=
  PE.of (pe_callS F hr hg hm hk hb (fun σ => passAt tk σ) ha hd (star_plain hp es X.env) (stars_plain hps pos X.env)) fun σ H Q ⟨m, ρ, S, s, E, h⟩ =>
    chainA s E h fun l S1 m1 H1 vs e1 s1 E1 r1 h1 => invoke_ok s1 r1 hl h1
theorem pe_calvR (F : FnOk X.prog X.w X.K X.mg X.base (L2.CX X.prog X.w) k a fd ps (spR Φ.K Φ.A np run)) (hl : ∀ vs S, vs.length ≠ np → run vs S = .no) (hr : Room k X.A) (hg : Gl X x) (hm : X.mg x = some (.ref a)) (hk : PySem.W.keepIn X.K (.ref a) = true) (hb : Binds X.K fd ps []) (tk : Takes X W)
    (hp : plainE e = true) (hps : plainEs es = true) (hd : (x == ("__debug__" : Str)) = false) (ha : PA X (e :: es) (tRA Φ W f)) :
    PE X (.Call (.Name x p2) (e :: es) [] pos) (tR Φ W fun ρ S => (f ρ S).bind fun r S1 => withL r fun vs => lend run vs S1) :=
  PE.of (pe_callS F hr hg hm hk hb (fun σ => passAt tk σ) ha hd (star_plain hp es X.env) (stars_plain hps pos X.env)) fun σ H Q ⟨m, ρ, S, s, E, h⟩ =>
    chainA s E h fun l S1 m1 H1 vs e1 s1 E1 r1 h1 => lend_ok s1 r1 hl h1
theorem pe_call0S {sp : Sp} {E : L2.St → XK} {CX : CXT} (F : FnOk X.prog X.w X.K X.mg X.base CX k a fd ps sp) (hr : Room k X.A) (hg : Gl X x) (hm : X.mg x = some (.ref a)) (hk : PySem.W.keepIn X.K (.ref a) = true) (hb : Binds X.K fd ps []) (hx : ∀ σ, PassesAt CX X σ (E σ)) (hd : (x == ("__debug__" : Str)) = false) :
    PE X (.Call (.Name x p2) [] [] pos) (tCallS sp E tNil) := by
  refine ⟨fun pins s σ H Q I h =>
        ?_⟩
  refine wpAny_Call_Name_kw
        (ld_glob I hg hm ?_ hd)
  exact PySem.W.callWith_K0 I.kIn hk (run_fnS (us := []) F hr hb (hx σ) I .nil h)
theorem pe_call0R (F : FnOk X.prog X.w X.K X.mg X.base (L2.CX X.prog X.w) k a fd ps (spR Φ.K Φ.A np run)) (hl : ∀ vs S, vs.length ≠ np → run vs S = .no) (hr : Room k X.A) (hg : Gl X x) (hm : X.mg x = some (.ref a)) (hk : PySem.W.keepIn X.K (.ref a) = true) (hb : Binds X.K fd ps []) (tk : Takes X W) (hd : (x == ("__debug__" : Str)) = false) :
    PE X (.Call (.Name x p2) [] [] pos) (tR Φ W fun ρ S => ((fun _ S => .ok (.lst []) S : Run) ρ S).bind fun r S1 => withL r fun vs => invoke run vs S1) :=
  PE.of (pe_call0S F hr hg hm hk hb (fun σ => passAt tk σ) hd) fun σ H Q ⟨m, ρ, S, s, E, h⟩ => invoke_ok (np := np) s RelPs.nil hl h
end
end Rn
set_option maxHeartbeats 1000007
/-! The runner is right: calls of what an expression tells, calls by names. -/
namespace Rn
open L2 PySem PyProof.Rows PySem.Spec

section
variable {X : Cx} {Φ : Fm} {W : WX} {m m1 m0 : Mp} {H H1 : Hp} {S S0 S1 : Sto} {ρ : Env} {σ : L2.St} {pos p2 kpos : Pos} {f g : Run} {e fe : Expr} {es : List Expr} {k : Nat} {fd : FuncData} {ps : List Str} {a : Addr} {x : Str}
/-- each def of the table keeps its promise -/
def Defs (X : Cx) (Φ : Fm) (k : Nat) (run : Nat → List PV → Sto → R PV) : Prop := ∀ n, ∃ (fd : FuncData) (ps : List Str) (np : Nat), FnOk X.prog X.w X.K X.mg X.base (L2.CX X.prog X.w) k (Φ.A.fa n) fd ps (spR Φ.K Φ.A np (run n)) ∧ (∀ vs S, vs.length ≠ np → run n vs S = .no) ∧
  PySem.W.keepIn X.K (.ref (Φ.A.fa n)) = true ∧ Binds X.K fd ps []
theorem pe_caleR {run : Nat → List PV → Sto → R PV} (F : Defs X Φ k run) (hr : Room k X.A) (tk : Takes X W) (hp : plainE e = true) (hps : plainEs es = true) (hf : PE X fe (tR Φ W g)) (ha : PA X (e :: es) (tRA Φ W f))
    (ht : eval (.Call fe (e :: es) [] pos) X.env = (do callWith pos (← eval fe X.env) [] (backTo pos (starEach (e :: es) X.env)) (backToKw pos (keywordEach [] X.env)))) :
    PE X (.Call fe (e :: es) [] pos) (tR Φ W fun ρ S => (g ρ S).bind fun v S1 => match v with
      | .fn n => (f ρ S1).bind fun r S2 => withL r fun vs => invoke (run n) vs S2
      | _ => .no) := by
  refine ⟨fun pins s σ H Q I ⟨m, ρ, S, hs, E, h⟩ => ?_⟩
  have key := chain (Q1 := fun y H1 => ∃ n, y = V.ref (Φ.A.fa n) ∧ tRA Φ W f σ H1 fun xs H2 => ∀ np, (∀ vs S, vs.length ≠ np → run n vs S = .no) → spR Φ.K Φ.A np (run n) xs H2 Q (WE W σ)) hs E h fun p S1 m1 H1 y e1 s1 E1 r1 h1 => by
    cases p with
    | fn n =>
      simp only [RelP] at r1
      exact ⟨n, r1, chainA s1 E1 h1 fun l S2 m2 H2 vs e2 s2 E2 r2 h2 np hl => invoke_ok s2 r2 hl h2⟩
    | _ => exact False.elim h1
  refine Call_ (thn (hf.run pins s σ H _ I key) fun u s1 ⟨y, H1, I1, ry, n, ey, q⟩ => ?_) ht
  subst ey
  obtain rfl : u = Value.ref (Φ.A.fa n) := ry
  obtain ⟨fd, ps, np, F, hl, hk, hb⟩ := F n
  refine PySem.W.callWith_K (h₀ := X.base) I.ok.mod.kin hk (thn (ha.run pos pins s1 σ H1 _ I1 q) fun us s2 ⟨vs, H2, I2, r, q2⟩ => ⟨I2.kIn, ?_⟩) (star_plain hp es X.env) (stars_plain hps pos X.env)
  exact run_fnS F hr hb (passAt tk σ) I2 r (q2 np hl)

theorem pe_cale0R {run : Nat → List PV → Sto → R PV} (F : Defs X Φ k run) (hr : Room k X.A) (tk : Takes X W) (hf : PE X fe (tR Φ W g))
    (ht : eval (.Call fe [] [] pos) X.env = (do callWith pos (← eval fe X.env) [] (backTo pos (starEach [] X.env)) (backToKw pos (keywordEach [] X.env)))) :
    PE X (.Call fe [] [] pos) (tR Φ W fun ρ S => (g ρ S).bind fun v S1 => match v with
      | .fn n => invoke (run n) [] S1
      | _ => .no) := by
  refine ⟨fun pins s σ H Q I ⟨m, ρ, S, hs, E, h⟩ => ?_⟩
  have key := chain (Q1 := fun y H1 => ∃ n, y = V.ref (Φ.A.fa n) ∧ ∀ np, (∀ vs S, vs.length ≠ np → run n vs S = .no) → spR Φ.K Φ.A np (run n) [] H1 Q (WE W σ)) hs E h fun p S1 m1 H1 y e1 s1 E1 r1 h1 => by
    cases p with
    | fn n =>
      simp only [RelP] at r1
      exact ⟨n, r1, fun np hl => invoke_ok s1 RelPs.nil hl h1⟩
    | _ => exact False.elim h1
  refine Call_ (thn (hf.run pins s σ H _ I key) fun u s1 ⟨y, H1, I1, ry, n, ey, q⟩ => ?_) ht
  subst ey
  obtain rfl : u = Value.ref (Φ.A.fa n) := ry
  obtain ⟨fd, ps, np, F, hl, hk, hb⟩ := F n
  exact PySem.W.callWith_K0 I1.kIn hk (run_fnS (us := []) F hr hb (passAt tk σ) I1 .nil (q np hl))

/-! ### by names -/
def tPK (Φ : Fm) (W : WX) (f : Run) : TA := tRA Φ W f
theorem PK.of {kws : List Keyword} {t t' : TA} (h : PK X kws t) (k : ∀ σ H Q, t' σ H Q → t σ H Q) : PK X kws t' := ⟨fun pos pins s σ H Q I q => h.run pos pins s σ H Q I (k σ H Q q)⟩
theorem pk_nilR : PK X [] (tRA Φ W fun _ S => .ok (.lst []) S) := PK.of pk_nil fun σ H Q ⟨m, ρ, S, s, e, h⟩ => finA h s RelPs.nil
theorem cons_key {Q : List V → Hp → Prop} (h : tRA Φ W (fun ρ S => (f ρ S).bind fun v S1 => (g ρ S1).bind fun r S2 => withL r fun vs => .ok (.lst (v :: vs)) S2) σ H Q) : tR Φ W f σ H fun x H1 => tRA Φ W g σ H1 fun xs H2 => Q (x :: xs) H2 := by
  obtain ⟨m, ρ, S, s, e, h⟩ := h
  refine ⟨m, ρ, S, s, e, ?_⟩
  dsimp only at h
  cases h1 : f ρ S with
  | no =>
    rw [h1] at h
    exact h
  | ex c S1 =>
    rw [h1] at h
    exact h
  | ok p S1 =>
    rw [h1] at h
    intro m1 H1 x e1 s1 r1
    refine ⟨m1, ρ, S1, s1, e.ext e1, ?_⟩
    have h : PostA Φ W m H σ ((g ρ S1).bind fun r S2 => withL r fun vs => .ok (.lst (p :: vs)) S2) Q := h
    have h := PostA.ext e1 h
    cases h2 : g ρ S1 with
    | no =>
      rw [h2] at h
      exact h
    | ex c S1 =>
      rw [h2] at h
      exact h
    | ok q S2 =>
      rw [h2] at h
      have h : PostA Φ W m1 H1 σ (withL q fun vs => .ok (.lst (p :: vs)) S2) Q := h
      cases q with
      | lst l =>
        obtain ⟨l', e', h⟩ := h
        cases e'
        refine ⟨l, rfl, fun m2 H2 vs e2 s2 r2 => h m2 H2 (x :: vs) e2 s2 (RelPs.cons (r1.ext e2) r2)⟩
      | _ => exact False.elim h
theorem pk_consR {nm : Option Str} {kws : List Keyword} (ha : PE X e (tR Φ W f)) (hr : PK X kws (tRA Φ W g)) :
    PK X (⟨nm, e, kpos⟩ :: kws) (tRA Φ W fun ρ S => (f ρ S).bind fun v S1 => (g ρ S1).bind fun r S2 => withL r fun vs => .ok (.lst (v :: vs)) S2) := PK.of (pk_cons ha hr) fun σ H Q h => cons_key h
def permV {α : Type} (ix : List Nat) (vs : List α) : Option (List α) := match ix with
  | [] => some []
  | i :: r => match vs[i]?, permV r vs with
    | some v, some l =>
          some (v :: l)
    | _, _ => none
theorem perm_rel {vs : List PV} {xs : List V} (r : RelPs Φ m H vs xs) : ∀ {ix : List Nat} {ws : List PV}, perm ix vs = some ws → ∃ ys, permV ix xs = some ys ∧ RelPs Φ m H ws ys
  | [], ws, h => by
    cases h
    exact ⟨[], rfl, RelPs.nil⟩
  | i :: ix, ws, h => by
    have h : (match vs[i]?, perm ix vs with | some v, some l => some (v :: l) | _, _ => none) = some ws := h
    cases e1 : vs[i]? with
    | none =>
      rw [e1] at h
      cases h
    | some v =>
      cases e2 : perm ix vs with
      | none =>
        rw [e1, e2] at h
        cases h
      | some l =>
        rw [e1, e2] at h
        cases h
        obtain ⟨x, q1, q2⟩ := r.get e1
        obtain ⟨ys, q3, q4⟩ := perm_rel r e2
        refine ⟨x :: ys, ?_, RelPs.cons q2 q4⟩
        simp only [permV, q1, q3]
theorem permV_vals {xs : List V} {us : List Value} (r : Vals xs us) : ∀ {ix : List Nat} {ys : List V}, permV ix xs = some ys → ∃ ws, permV ix us = some ws ∧ Vals ys ws
  | [], ys, h => by
    cases h
    exact ⟨[], rfl, .nil⟩
  | i :: ix, ys, h => by
    simp only [permV] at h
    cases e1 : xs[i]? with
    | none =>
      rw [e1] at h
      cases h
    | some v =>
      cases e2 : permV ix xs with
      | none =>
        rw [e1, e2] at h
        cases h
      | some l =>
        rw [e1, e2] at h
        cases h
        obtain ⟨u, q1, q2⟩ := r.get e1
        obtain ⟨ws, q3, q4⟩ := permV_vals r e2
        refine ⟨u :: ws, ?_, .cons q2 q4⟩
        simp only [permV, q1, q3]
/-- how a call by names alone binds -/
def KwBinds (K : PySem.W.Frag) (fd : FuncData) (ps ks : List Str) (ix : List Nat) : Prop := ∀ (s : Shared) (us ws : List Value), K.In s.heap → us.length = ks.length → permV ix us = some ws → ws.length = ps.length → BindsTo s fd ⟨[], ks.zip us⟩ (ps.zip ws)
theorem pe_calk0R {run : List PV → Sto → R PV} {np : Nat} {kws : List Keyword} {ks : List Str} {ix : List Nat} (F : FnOk X.prog X.w X.K X.mg X.base (L2.CX X.prog X.w) k a fd ps (spR Φ.K Φ.A np run)) (hl : ∀ vs S, vs.length ≠ np → run vs S = .no) (hr : Room k X.A) (hg : Gl X x) (hm : X.mg x = some (.ref a))
    (hk : PySem.W.keepIn X.K (.ref a) = true) (hb : KwBinds X.K fd ps ks ix) (tk : Takes X W) (hd : (x == ("__debug__" : Str)) = false) (hkw : PK X kws (tRA Φ W f)) (hlen : ∀ ρ S l S1, f ρ S = .ok (.lst l) S1 → l.length = ks.length)
    (hall : (backToKw pos (keywordEach kws X.env)).all (·.1.isSome) = true) (hks : (backToKw pos (keywordEach kws X.env)).filterMap (·.1) = ks) (hpl : ((backTo pos (starEach [] X.env)).any (·.1) || (backToKw pos (keywordEach kws X.env)).any (·.1.isNone)) = false) :
    PE X (.Call (.Name x p2) [] kws pos) (tR Φ W fun ρ S => (f ρ S).bind fun r S1 => withL r fun vs => withO (perm ix vs) fun ws => invoke run ws S1) := by
  refine ⟨fun pins s σ H Q I ⟨m, ρ, S, hs, E, h⟩ => ?_⟩
  have key : tRA Φ W f σ H fun xs H1 => xs.length = ks.length ∧ ∃ ys, permV ix xs = some ys ∧ spR Φ.K Φ.A np run ys H1 Q (WE W σ) := by
    refine ⟨m, ρ, S, hs, E, ?_⟩
    have h : PostE Φ W m H σ ((f ρ S).bind fun r S1 => withL r fun vs => withO (perm ix vs) fun ws => invoke run ws S1) Q := h
    cases hr : f ρ S with
    | no =>
      rw [hr] at h
      exact h
    | ex c S1 =>
      rw [hr] at h
      exact h
    | ok p S1 =>
      rw [hr] at h
      have h : PostE Φ W m H σ (withL p fun vs => withO (perm ix vs) fun ws => invoke run ws S1) Q := h
      cases p with
      | lst l =>
        obtain ⟨ws, ew, h⟩ := withO_ok (show PostE Φ W m H σ (withO (perm ix l) fun ws => invoke run ws S1) Q from h)
        refine ⟨l, rfl, fun m1 H1 xs e1 s1 r1 => ?_⟩
        obtain ⟨ys, q1, q2⟩ := perm_rel r1 ew
        exact ⟨by rw [← r1.length]; exact hlen ρ S l S1 hr, ys, q1, invoke_ok s1 q2 hl (PostE.ext e1 h)⟩
      | _ => exact False.elim h
  refine wpAny_Call_Name_kw
        (ld_glob I hg hm ?_ hd)
  refine PySem.W.callWith_KW0 (h₀ := X.base) I.ok.mod.kin hk hall (thn (hkw.run pos pins s σ H _ I key) fun us s1 ⟨xs, H1, I1, r, z1, ys, q1, q2⟩ => ⟨I1.kIn, ?_⟩) hpl
  rw [hks]
  obtain ⟨ws, q3, q4⟩ := permV_vals r q1
  have hl2 : ws.length = ps.length := by rw [← q4.length]; exact F.len _ _ _ _ q2
  refine wpAny_call (codeAny_mono (F.run X.A X.stack s1 H1 ⟨[], ks.zip us⟩ ws ys Q (WE W σ) hr I1.env0 (hb s1 us ws I1.kIn (by rw [← r.length]; exact z1) q3 hl2) q4 q2) fun r s' hq => ?_)
  cases r with
  | error e => exact passAt tk σ pins H1 s1 e s' I1 hq
  | ok fl =>
    cases fl with
    | ret u => exact I1.after hq
    | next => exact False.elim hq
    | brk => exact False.elim hq
    | cont => exact False.elim hq
end
end Rn
set_option maxHeartbeats 1000007
/-! The runner is right: raise. -/
namespace Rn
open L2 PySem PyProof.Rows PySem.Spec

section
variable {X : Cx} {Φ : Fm} {W : WX} {m m1 m0 : Mp} {H H1 : Hp} {S S0 S1 : Sto} {ρ : Env} {σ : L2.St} {pos p2 kpos : Pos} {f g : Run} {e fe : Expr} {es : List Expr} {k : Nat} {x : Str}
/-- X(), X an own exception class without own __init__ -/
theorem pmk_own0 {C : Addr} {bmB : List Value} {B newId initId : String} (F : ExcBaseFacts B newId initId bmB) (q : PySem.W.excIn X.K C bmB newId = true) (gC : X.mg x = some (.ref C)) (kC : PySem.W.keepIn X.K (.ref C) = true) (r : Raises X (.ref C)) (hg : Gl X x)
    (hd : (x == ("__debug__" : Str)) = false) : PMk X (.Call (.Name x p2) [] [] pos) (fun _ H Q => Q (.ref C) none H) := by
  intro pins s σ H Q I h
  refine wpAny_Call_Name_kw (ld_glob I hg gC ?_ hd)
  refine PySem.W.callWith_K0 I.kIn kC ?_
  show wpAny _ _ (call (.ref C) []) _ _ _
  obtain ⟨bm, N, nm, qn, bs, hdct, sn, sub, ab, col, dd, k0, k1, k2, k3, k5, mN, hC, hN, hni, T⟩ := exc_obj I.kIn q
  refine wpAny_call_exc_subT F T hC hN hni (fun h' e hm => ?_) (by show 0 ≤ sizeLine; omega)
  exact mk_of I hm r h (I.hok.gone hm.new)
theorem ps_rai0R {c : Nat} {cpos : Pos} {bmB : List Value} {B newId initId : String} (F : ExcBaseFacts B newId initId bmB) (q : PySem.W.excIn X.K (Φ.A.ca c) bmB newId = true) (gC : X.mg x = some (.ref (Φ.A.ca c))) (kC : PySem.W.keepIn X.K (.ref (Φ.A.ca c)) = true) (r : Raises X (.ref (Φ.A.ca c))) (hg : Gl X x)
    (hd : (x == ("__debug__" : Str)) = false) (hc : X.calm = true) (tk : Takes X W) :
    PS X (.Raise (some (.Call (.Name x p2) [] [] cpos)) none pos) (tS Φ W fun ρ S => onR ((fun _ S => .ok (.lst []) S : Run) ρ S) ρ fun v S1 => match v with
      | .lst vs => .ex ⟨c, vs⟩ ρ S1
      | _ => .no) :=
  PS.of (ps_raise hc tk (pmk_own0 F q gC kC r hg hd)) fun D σ H ⟨m, ρ, S, s, E, h⟩ => h _ none m H σ Ext.refl s ⟨rfl, rfl, rfl⟩ E
end
end Rn
set_option maxHeartbeats 1000007
/-! The runner is right: zip of lists and tuples, in any mix. -/
namespace Rn
open L2 PySem PyProof.Rows PySem.Spec

/-- a list (false) or a tuple (true), in the heap -/
def IsB (t : Bool) (h : Heap) (a : Addr) (its : Array Value) : Prop := match t with
  | false => h.IsList a its
  | true => h.IsTuple a its
def IterB (t : Bool) (h : Heap) (it a : Addr) (i : Nat) : Prop := match t with
  | false => h.IsListIter it a i
  | true => h.IsTupleIter it a i
theorem IterB.at {t : Bool} {h h' : Heap} {it a : Addr} {i : Nat} (x : IterB t h it a i) (k : ∀ o, h.get? it = some o → h'.get? it = some o) : IterB t h' it a i := by
  cases t with
  | false => exact Heap.IsListIter.at x k
  | true => exact Heap.IsTupleIter.at x k
theorem IterB.obj {t : Bool} {h : Heap} {it a : Addr} {i : Nat} (x : IterB t h it a i) : ∃ o, h.get? it = some o ∧ ∀ v, o.data ≠ .cell v := by
  cases t with
  | false =>
    obtain ⟨o, e, _, d⟩ := x
    exact ⟨o, e, fun v q => by rw [d] at q; cases q⟩
  | true =>
    obtain ⟨o, e, _, d⟩ := x
    exact ⟨o, e, fun v q => by rw [d] at q; cases q⟩
theorem IterB.cls {t : Bool} {h : Heap} {it a : Addr} {i : Nat} (x : IterB t h it a i) : ∃ o, h.get? it = some o ∧ (o.cls = .type "list_iterator" ∨ o.cls = .type "tuple_iterator") := by
  cases t with
  | false =>
    obtain ⟨o, e, c, d⟩ := x
    exact ⟨o, e, .inl c⟩
  | true =>
    obtain ⟨o, e, c, d⟩ := x
    exact ⟨o, e, .inr c⟩
theorem isB_ne {t t' : Bool} {h : Heap} {a it b : Addr} {its : Array Value} {i : Nat} (x : IsB t h a its) (y : IterB t' h it b i) : a ≠ it := fun e => by
  subst e
  obtain ⟨o, e1, c1⟩ := y.cls
  cases t with
  | false =>
    obtain ⟨o', e2, c2, _⟩ := x
    rw [e1] at e2
    cases e2
    rw [c2] at c1
    rcases c1 with c1 | c1 <;> exact absurd (Value.type.inj c1) (by decide)
  | true =>
    obtain ⟨o', e2, c2, _⟩ := x
    rw [e1] at e2
    cases e2
    rw [c2] at c1
    rcases c1 with c1 | c1 <;> exact absurd (Value.type.inj c1) (by decide)
theorem drawsB {prog : Program} {w : World} {A : Around} (hh : A.handled = none) (t : Bool) (it a : Addr) (hne : a ≠ it) (its : Array Value) :
    Draws prog w A it [it, a] its.size (fun i v => its[i]? = some v) (fun i h => IterB t h it a i ∧ IsB t h a its) := by
  cases t with
  | false => exact Draws.list hh it a hne its
  | true => exact Draws.tuple hh it a hne its
theorem seqB {X : Cx} {pins : List (Addr × Obj)} {σ : L2.St} {H : Hp} {s : Shared} {t : Bool} {a : Addr} {xs : List V} (I : L2.Inv X pins σ H s) (h : SqB X.K H a xs t) : ∃ its : List Value, Vals xs its ∧ IsB t s.heap a its.toArray := by
  cases t with
  | false =>
    obtain ⟨its, rv, pl, _⟩ := I.list (show SqL X.K H a xs from h)
    exact ⟨its, rv, pl.isList⟩
  | true =>
    obtain ⟨its, rv, pl, _⟩ := I.tuple (show SqT X.K H a xs from h)
    exact ⟨its, rv, isTuple_of pl⟩
theorem seqB_inj {X : Cx} {pins : List (Addr × Obj)} {σ : L2.St} {H : Hp} {s : Shared} {t : Bool} {a : Addr} {xs ys : List V} (I : L2.Inv X pins σ H s) (h : SqB X.K H a xs t) (h' : SqB X.K H a ys t) : xs = ys := by
  cases t with
  | false => exact I.list_inj h h'
  | true => exact I.tuple_inj h h'
theorem isB_lt {t : Bool} {h : Heap} {a : Addr} {its : Array Value} (x : IsB t h a its) : a < h.objs.size := by
  cases t with
  | false =>
    obtain ⟨o, e, _⟩ := x
    exact Heap.lt_size e
  | true =>
    obtain ⟨o, e, _⟩ := x
    exact Heap.lt_size e
def ItzM (K : PySem.W.Frag) (ta tb : Bool) (a b : Addr) : It :=
  ⟨fun i H => ∃ (xs ys : List V) (x y : V), SqB K H a xs ta ∧ SqB K H b ys tb ∧ xs[i]? = some x ∧ ys[i]? = some y,
    fun i H v H' => ∃ T x y, v = .ref T ∧ H T = none ∧ H' = upd H T (.tup [x, y]) ∧ (∀ xs, SqB K H a xs ta → xs[i]? = some x) ∧ ∀ ys, SqB K H b ys tb → ys[i]? = some y,
    fun i H => ∃ xs ys : List V, SqB K H a xs ta ∧ SqB K H b ys tb ∧ i ≤ xs.length ∧ i ≤ ys.length ∧ (xs.length = i ∨ ys.length = i)⟩
/-- what holds of each of five holds of what is one of them -/
theorem one5 {P : Addr → Prop} {a b c d e x : Addr} (m : x ∈ [a, b, c, d, e]) (pa : P a) (pb : P b) (pc : P c) (pd : P d) (pe : P e) : P x := by
  simp only [List.mem_cons, List.not_mem_nil, or_false] at m
  obtain rfl | rfl | rfl | rfl | rfl := m <;> assumption
theorem out5 {a b c d e x : Addr} (m : x ∉ [a, b, c, d, e]) : x ≠ a ∧ x ≠ b ∧ x ≠ c ∧ x ≠ d ∧ x ≠ e := by
  simp only [List.mem_cons, List.not_mem_nil, or_false, not_or] at m
  exact m
/-- the zip's own cells at turn n -/
structure ZipAt (ta tb : Bool) (a b z TI TO i1 i2 : Addr) (n : Nat) (h : Heap) : Prop where
  zip : IsZip h z TI TO .none
  src : IsTupOf2 h TI (.ref i1) (.ref i2)
  out : ∃ x y, IsTupOf2 h TO x y
  one : IterB ta h i1 a n
  two : IterB tb h i2 b n
theorem turn_zipM {P : Program} {w : World} {K : PySem.W.Frag} {elts : List Expr} {kk : Nat} {tpos : Pos} {ta tb : Bool} {a b z TI TO i1 i2 : Addr} (S : ZipSep2 z TI TO i1 i2 [i1, a] [i2, b]) :
    Turn P w K (.Tuple elts kk tpos) (ItzM K ta tb a b) [z, TI, TO, i1, i2] z (ZipAt ta tb a b z TI TO i1 i2) where
  mem := List.mem_cons_self ..
  obj := fun n h Z c m => by
    obtain ⟨p, q, g⟩ := Z.out
    exact one5 (P := fun c => ∃ o, h.get? c = some o ∧ ∀ v, o.data ≠ .cell v) m ⟨_, Z.zip, fun _ e => nomatch e⟩ ⟨_, Z.src, fun _ e => nomatch e⟩ ⟨_, g, fun _ e => nomatch e⟩ Z.one.obj Z.two.obj
  keep := fun n h h' Z k => by
    obtain ⟨p, q, g⟩ := Z.out
    exact ⟨k _ (by simp) _ Z.zip, k _ (by simp) _ Z.src, ⟨p, q, k _ (by simp) _ g⟩, Z.one.at fun o => k _ (by simp) o, Z.two.at fun o => k _ (by simp) o⟩
  item := by
    rintro X rfl rfl rfl calm n pins s σ H E I own Z ⟨xs, ys, x, y, sx, sy, ex, ey⟩
    obtain ⟨p, q, gO⟩ := Z.out
    obtain ⟨us, vx, bx⟩ := seqB I sx
    obtain ⟨ws, vy, by'⟩ := seqB I sy
    obtain ⟨ux, eu, ru⟩ := vx.get ex
    obtain ⟨uy, ew, rw'⟩ := vy.get ey
    have quiet := I.ok.hd calm
    have old := Heap.lt_size Z.zip
    have lt1 : n < us.toArray.size := by rw [List.size_toArray]; exact (List.getElem?_eq_some_iff.mp eu).1
    have lt2 : n < ws.toArray.size := by rw [List.size_toArray]; exact (List.getElem?_eq_some_iff.mp ew).1
    refine wpAny_pyNext_zipD2_item (A := X.A) S (drawsB (A := X.A.in1) quiet ta i1 a (isB_ne bx Z.one) us.toArray) (drawsB (A := X.A.in1) quiet tb i2 b (isB_ne by' Z.two) ws.toArray) Z.zip Z.src gO ⟨Z.one, bx⟩ ⟨Z.two, by'⟩ lt1 lt2
      fun c1 c2 h1 tk d1 d2 Z1 O1 n1 n2 T1 _ k1 => ?_
    have f1 : ux = c1 := Option.some.inj (eu.symm.trans (by simpa using d1))
    have f2 : uy = c2 := Option.some.inj (ew.symm.trans (by simpa using d2))
    subst f1 f2
    refine ⟨_, rfl, wpAny_letOwnedTupleGo_zip (s := { s with heap := h1, toks := tk }) Z1 fun h2 Z2 rest => ?_⟩
    have T2 := (rest.2 _ (Nat.ne_of_gt old)).trans T1
    have laid : ObjOk X.prog X.w (upd H s.heap.objs.size (.tup [x, y])) h2 s.heap.objs.size (.tup [x, y]) := ⟨(by decide : 2 ≤ sizeLine), [ux, uy], .cons ru (.cons rw' .nil), _, T2, rfl, _, rfl⟩
    have J := I.turnedNew (t' := tk) (ch := [z, TI, TO, i1, i2]) (h' := h2) (fun c o m e => by
      obtain ⟨m1, m2, m3, m4, m5⟩ := out5 m
      exact (rest.2 c m1).trans (k1 c o m1 m3 m4 m5 e)) own (Nat.le_refl _) laid
    refine ⟨.ref s.heap.objs.size, _, J, rfl, ⟨_, x, y, rfl, I.fresh, rfl, fun l e => seqB_inj I sx e ▸ ex, fun l e => seqB_inj I sy e ▸ ey⟩, ⟨Z2, (rest.2 _ S.TIz).trans (k1 _ _ S.TIz S.TITO S.TIi1 S.TIi2 Z.src), ⟨ux, uy, (rest.2 _ S.TOz).trans O1⟩,
      n1.1.at fun o => (rest.2 _ (Ne.symm S.zi1)).trans, n2.1.at fun o => (rest.2 _ (Ne.symm S.zi2)).trans⟩, fun c m => ?_⟩
    have lt : c < s.heap.objs.size := by
      obtain ⟨_, g1, _⟩ := Z.one.obj
      obtain ⟨_, g2, _⟩ := Z.two.obj
      exact one5 (P := fun c => c < s.heap.objs.size) m old (Heap.lt_size Z.src) (Heap.lt_size gO) (Heap.lt_size g1) (Heap.lt_size g2)
    exact (upd_ne (Nat.ne_of_lt lt)).trans (own c m).1
  done := by
    rintro X rfl rfl rfl calm n pins s σ H E I own Z ⟨xs, ys, sx, sy, l1, l2, stop⟩
    obtain ⟨p, q, gO⟩ := Z.out
    obtain ⟨us, vx, bx⟩ := seqB I sx
    obtain ⟨ws, vy, by'⟩ := seqB I sy
    have quiet := I.ok.hd calm
    have s1 : us.toArray.size = xs.length := by rw [List.size_toArray, vx.length]
    have s2 : ws.toArray.size = ys.length := by rw [List.size_toArray, vy.length]
    refine wpAny_pyNext_zipD2_end (A := X.A) S (drawsB (A := X.A.in1) quiet ta i1 a (isB_ne bx Z.one) us.toArray) (drawsB (A := X.A.in1) quiet tb i2 b (isB_ne by' Z.two) ws.toArray) Z.zip Z.src gO ⟨Z.one, bx⟩ ⟨Z.two, by'⟩ (by omega) (by omega) (by omega)
      fun h1 tk k1 => ⟨rfl, I.turnedL (t' := tk) (ch := [z, TI, TO, i1, i2]) (fun c o m e => ?_) own⟩
    obtain ⟨m1, _, m3, m4, m5⟩ := out5 m
    exact k1 c o m1 m3 m4 m5 e
  self := fun _ _ _ _ _ Z go => wpAny_pyIter_zip Z.zip go

section
variable {X : Cx} {Φ : Fm} {W : WX} {m m1 m0 : Mp} {H H1 : Hp} {S S0 S1 : Sto} {ρ : Env} {σ : L2.St} {pos p2 kpos : Pos} {f g : Run} {e e2 : Expr} {es : List Expr}
theorem zipL_get : ∀ {x y : List PV} {i : Nat} {p : PV}, (zipL x y)[i]? = some p → ∃ a b, x[i]? = some a ∧ y[i]? = some b ∧ p = .tup [a, b]
  | [], y, i, p, h => by simp [zipL] at h
  | a :: x, [], i, p, h => by simp [zipL] at h
  | a :: x, b :: y, i, p, h => by
    cases i with
    | zero =>
      have e : PV.tup [a, b] = p := by simpa [zipL] using h
      exact ⟨a, b, rfl, rfl, e.symm⟩
    | succ i =>
      obtain ⟨a', b', h1, h2, h3⟩ := zipL_get (x := x) (y := y) (i := i) (by simpa [zipL] using h)
      exact ⟨a', b', by simpa using h1, by simpa using h2, h3⟩
theorem zipL_len : ∀ (x y : List PV), (zipL x y).length = min x.length y.length
  | [], y => by simp [zipL]
  | a :: x, [] => by simp [zipL]
  | a :: x, b :: y => by
    show (zipL x y).length + 1 = _
    rw [zipL_len x y, List.length_cons, List.length_cons]
    omega
/-- what no box is, is the same sequence as long as all stands -/
theorem seqB_stay {p : PV} {v : V} {l : List PV} {B : Addr → Prop} (s : RelS Φ m S H) (r : RelP Φ m H p v) (e : seqOf S p = some l) (nb : boxOf p = none) (hB : BoIn Φ H B) : ∃ a xs, v = .ref a ∧ SqB Φ.K H a xs (isT p) ∧ RelPs Φ m H l xs ∧ ∀ m2 H2, Ext m H m2 H2 → SqB Φ.K H2 a xs (isT p) ∧ RelPs (Φ.bo B) m2 H2 l xs := by
  cases p with
  | tup l' =>
    simp only [RelP] at r
    obtain ⟨a, xs, ex, h1, h2⟩ := r
    cases e
    exact ⟨a, xs, ex, h1.sq, h2, fun m2 H2 e2 => ⟨(h1.ext e2).sq, (h2.bo hB).ext e2⟩⟩
  | lst l' =>
    simp only [RelP] at r
    obtain ⟨a, xs, ex, h1, h2⟩ := r
    cases e
    exact ⟨a, xs, ex, h1.sq, h2, fun m2 H2 e2 => ⟨(h1.ext e2).sq, (h2.bo hB).ext e2⟩⟩
  | klst l' =>
    simp only [RelP] at r
    obtain ⟨a, xs, ex, h1, h2⟩ := r
    cases e
    exact ⟨a, xs, ex, h1.sq, h2, fun m2 H2 e2 => ⟨(h1.ext e2).sq, (h2.bo hB).ext e2⟩⟩
  | box n => cases nb
  | _ => cases e
theorem walk_zip {x y : List PV} {xs ys : List V} {a b : Addr} {ta tb : Bool} (hx : ∀ m2 H2, Ext m H m2 H2 → SqB Φ.K H2 a xs ta ∧ RelPs Φ m2 H2 x xs) (hy : ∀ m2 H2, Ext m H m2 H2 → SqB Φ.K H2 b ys tb ∧ RelPs Φ m2 H2 y ys) : WalkR Φ m H true none (zipL x y) (ItzM Φ.K ta tb a b) := fun m2 S2 H2 e s _ i => by
  obtain ⟨h1, h2⟩ := hx m2 H2 e
  obtain ⟨h3, h4⟩ := hy m2 H2 e
  have l1 := h2.length
  have l2 := h4.length
  have lz := zipL_len x y
  refine ⟨fun hi => ⟨xs, ys, xs[i]'(by omega), ys[i]'(by omega), h1, h3, List.getElem?_eq_getElem _, List.getElem?_eq_getElem _⟩, fun hi => ?_, fun p v H3 ep yl => ?_⟩
  · exact ⟨xs, ys, h1, h3, by omega, by omega, by omega⟩
  · obtain ⟨T, u, w, ev, hT, eH, z1, z2⟩ := yl
    subst eH
    obtain ⟨p1, p2, q1, q2, rfl⟩ := zipL_get ep
    obtain ⟨v1, w1, r1⟩ := h2.get q1
    obtain ⟨v2, w2, r2⟩ := h4.get q2
    have e1 := z1 xs h1
    rw [w1] at e1
    cases e1
    have e2 := z2 ys h3
    rw [w2] at e2
    cases e2
    exact ⟨Ext.new s hT, s.new hT, .inr ⟨rfl, T, [u, w], [p1, p2], rfl, ev, upd_same, RelPs.cons (r1.ext (Ext.new s hT)) (RelPs.cons (r2.ext (Ext.new s hT)) RelPs.nil)⟩⟩
theorem pi_zipR {elts : List Expr} {kk : Nat} {tpos : Pos} (hK : X.K = Φ.K) (hg : Gl X "zip") (hm : X.mg "zip" = none) (hp : plainE e = true) (hp2 : plainE e2 = true) (ha : PE X e (tR Φ W f)) (hb : PE X e2 (tR Φ W g)) :
    PI X (.Tuple elts kk tpos) (.Call (.Name "zip" p2) [e, e2] [] pos) (tRI Φ W true fun ρ S => (f ρ S).bind fun v S1 => (g ρ S1).bind fun w S2 => withO (seqOf S2 v) fun x => withO (seqOf S2 w) fun y =>
      match boxOf v, boxOf w with
      | none, none => .ok (.lst (zipL x y)) S2
      | _, _ => .no) := by
  refine ⟨fun pins s σ H R I ⟨m, ρ, S, hs, E, h⟩ => ?_⟩
  have key : tCons (tR Φ W f) (tCons (tR Φ W g) tNil) σ H fun vs H1 => ∃ (a b : Addr) (ta tb : Bool) (xs ys : List V), vs = [.ref a, .ref b] ∧ SqB X.K H1 a xs ta ∧ SqB X.K H1 b ys tb ∧ R (ItzM X.K ta tb a b) H1 := by
    show tR Φ W f σ H fun x H1 => tR Φ W g σ H1 fun y H2 => _
    refine ⟨m, ρ, S, hs, E, ?_⟩
    have h : PostI Φ W true m H σ ((f ρ S).bind fun v S1 => (g ρ S1).bind fun w S2 => withO (seqOf S2 v) fun x => withO (seqOf S2 w) fun y =>
      match boxOf v, boxOf w with
      | none, none => .ok (.lst (zipL x y)) S2
      | _, _ => .no) R := h
    cases hr : f ρ S with
    | no =>
      rw [hr] at h
      exact h
    | ex c S1 =>
      rw [hr] at h
      exact h
    | ok v S1 =>
      rw [hr] at h
      intro m1 H1 xv e1 s1 r1
      refine ⟨m1, ρ, S1, s1, E.ext e1, ?_⟩
      have h : PostI Φ W true m H σ ((g ρ S1).bind fun w S2 => withO (seqOf S2 v) fun x => withO (seqOf S2 w) fun y =>
      match boxOf v, boxOf w with
      | none, none => .ok (.lst (zipL x y)) S2
      | _, _ => .no) R := h
      cases hr2 : g ρ S1 with
      | no =>
        rw [hr2] at h
        exact h
      | ex c S2 =>
        rw [hr2] at h
        exact fun cls d m' H' e2 s2 x2 => h cls d m' H' (e1.trans e2) s2 x2
      | ok w S2 =>
        rw [hr2] at h
        intro m2 H2 yv e2 s2 r2
        have h : PostI Φ W true m H σ (withO (seqOf S2 v) fun x => withO (seqOf S2 w) fun y =>
      match boxOf v, boxOf w with
      | none, none => .ok (.lst (zipL x y)) S2
      | _, _ => .no) R := h
        cases ex : seqOf S2 v with
        | none =>
          rw [ex] at h
          exact h.elim
        | some x =>
          cases ey : seqOf S2 w with
          | none =>
            rw [ex, ey] at h
            exact h.elim
          | some y =>
            rw [ex, ey] at h
            have h : PostI Φ W true m H σ (match boxOf v, boxOf w with
      | none, none => .ok (.lst (zipL x y)) S2
      | _, _ => .no) R := h
            cases bv : boxOf v with
            | some n =>
              rw [bv] at h
              exact h.elim
            | none =>
              cases bw : boxOf w with
              | some n =>
                rw [bv, bw] at h
                exact h.elim
              | none =>
                rw [bv, bw] at h
                obtain ⟨l, el, kk⟩ := h
                cases el
                obtain ⟨a, xs, ea, q1, q2, q3⟩ := seqB_stay (B := fun _ => False) s2 (r1.ext e2) ex bv (fun a z => z.elim)
                obtain ⟨b, ys, eb, q4, q5, q6⟩ := seqB_stay (B := fun _ => False) s2 r2 ey bw (fun a z => z.elim)
                refine ⟨a, b, isT v, isT w, xs, ys, by rw [ea, eb], by rw [hK]; exact q1, by rw [hK]; exact q4, ?_⟩
                rw [hK]
                refine kk m2 H2 _ (e1.trans e2) s2 fun B hB => ?_
                obtain ⟨a', xs', ea', _, _, z3⟩ := seqB_stay (B := B) s2 (r1.ext e2) ex bv hB
                obtain ⟨b', ys', eb', _, _, z6⟩ := seqB_stay (B := B) s2 r2 ey bw hB
                rw [ea] at ea'
                cases ea'
                rw [eb] at eb'
                cases eb'
                exact walk_zip (Φ := Φ.bo B) z3 z6
  have h1 := star_plain hp [e2] X.env
  have h2 : (backTo pos (starEach [e2] X.env)).any (·.1) = false := stars_plain (es := [e2]) (by show (plainE e2 && true) = true; rw [hp2]; rfl) pos X.env
  refine Call_ (ld_blt I hg hm PyProof.Rows.boot_zip (PyProof.Rows.callWith_type1 (thn ((pa_cons ha (pa_cons hb pa_nil (star_plain hp2 [] X.env)) h1).run pos pins s σ H _ I key) fun us s1 ⟨vs, H1, I1, r1, q1⟩ => ?_) h1 h2))
  obtain ⟨a, b, ta, tb, xs, ys, ex, hqx, hqy, q⟩ := q1
  subst ex
  cases r1 with
  | cons r rr =>
    cases rr with
    | cons r' rr =>
      cases rr
      cases r
      cases r'
      have young : ∀ c, c ∈ [s1.heap.objs.size + 4, s1.heap.objs.size + 2, s1.heap.objs.size + 3, s1.heap.objs.size, s1.heap.objs.size + 1] → FpOk X pins H1 c := fun c m => by
        have up : s1.heap.objs.size ≤ c := one5 (P := fun c => s1.heap.objs.size ≤ c) m (Nat.le_add_right _ 4) (Nat.le_add_right _ 2) (Nat.le_add_right _ 3) (Nat.le_refl _) (Nat.le_add_right _ 1)
        exact I1.fpOk up (I1.hok.fresh up)
      obtain ⟨its, rv, p1⟩ := seqB I1 hqx
      obtain ⟨its2, rv2, p2'⟩ := seqB I1 hqy
      have la : a < s1.heap.objs.size := isB_lt p1
      have lb : b < s1.heap.objs.size := isB_lt p2'
      have fin : ∀ h', IsZip h' (s1.heap.objs.size + 4) (s1.heap.objs.size + 2) (s1.heap.objs.size + 3) .none → IsTupOf2 h' (s1.heap.objs.size + 2) (.ref s1.heap.objs.size) (.ref (s1.heap.objs.size + 1)) →
          IsTupOf2 h' (s1.heap.objs.size + 3) .none .none → IterB ta h' s1.heap.objs.size a 0 → IterB tb h' (s1.heap.objs.size + 1) b 0 → (∀ c o, s1.heap.get? c = some o → h'.get? c = some o) →
          wpAny (model X.prog X.w) X.A (pyIter (.ref (s1.heap.objs.size + 4))) (PIE X pins σ (.Tuple elts kk tpos) R) X.xe { s1 with heap := h' } := fun h' hz hTI hTO i1 i2 hk => by
        have I2 : L2.Inv X pins σ H1 { s1 with heap := h' } := I1.kept (t' := s1.toks) hk
        exact wpAny_pyIter_zip hz ⟨s1.heap.objs.size + 4, [s1.heap.objs.size + 4, s1.heap.objs.size + 2, s1.heap.objs.size + 3, s1.heap.objs.size, s1.heap.objs.size + 1], _, _, H1, rfl, I2,
          turn_zipM (zip_sep2 (fp1 := [a]) (fp2 := [b]) (fun c hc => by have e : c = a := by simpa using hc
                                                                        rw [e]; exact la) (fun c hc => by have e : c = b := by simpa using hc
                                                                                                          rw [e]; exact lb)), ⟨hz, hTI, ⟨_, _, hTO⟩, i1, i2⟩, young, q⟩
      cases ta with
      | false =>
        cases tb with
        | false => exact zip_begins2 (begins_list a its.toArray) (begins_list b its2.toArray) p1 p2' fun h' hz hTI hTO g1 g2 hsz hk => fin h' hz hTI hTO ⟨_, g1, rfl, rfl⟩ ⟨_, g2, rfl, rfl⟩ hk
        | true => exact zip_begins2 (begins_list a its.toArray) (begins_tuple b its2.toArray) p1 p2' fun h' hz hTI hTO g1 g2 hsz hk => fin h' hz hTI hTO ⟨_, g1, rfl, rfl⟩ ⟨_, g2, rfl, rfl⟩ hk
      | true =>
        cases tb with
        | false => exact zip_begins2 (begins_tuple a its.toArray) (begins_list b its2.toArray) p1 p2' fun h' hz hTI hTO g1 g2 hsz hk => fin h' hz hTI hTO ⟨_, g1, rfl, rfl⟩ ⟨_, g2, rfl, rfl⟩ hk
        | true => exact zip_begins2 (begins_tuple a its.toArray) (begins_tuple b its2.toArray) p1 p2' fun h' hz hTI hTO g1 g2 hsz hk => fin h' hz hTI hTO ⟨_, g1, rfl, rfl⟩ ⟨_, g2, rfl, rfl⟩ hk
end
end Rn
set_option maxHeartbeats 1000007
/-! The runner is right: zip of three lists or tuples, in any mix. -/
namespace Rn
open L2 PySem PyProof.Rows PySem.Spec

def Itz3 (K : PySem.W.Frag) (ta tb tc : Bool) (a b c : Addr) : It :=
  ⟨fun i H => ∃ (xs ys zs : List V) (x y z : V), SqB K H a xs ta ∧ SqB K H b ys tb ∧ SqB K H c zs tc ∧ xs[i]? = some x ∧ ys[i]? = some y ∧ zs[i]? = some z,
    fun i H v H' => ∃ T x y z, v = .ref T ∧ H T = none ∧ H' = upd H T (.tup [x, y, z]) ∧ (∀ xs, SqB K H a xs ta → xs[i]? = some x) ∧ (∀ ys, SqB K H b ys tb → ys[i]? = some y) ∧ ∀ zs, SqB K H c zs tc → zs[i]? = some z,
    fun i H => ∃ xs ys zs : List V, SqB K H a xs ta ∧ SqB K H b ys tb ∧ SqB K H c zs tc ∧ i ≤ xs.length ∧ i ≤ ys.length ∧ i ≤ zs.length ∧ (xs.length = i ∨ ys.length = i ∨ zs.length = i)⟩
/-- what holds of each of six holds of what is one of them -/
theorem one6 {P : Addr → Prop} {a b c d e f x : Addr} (m : x ∈ [a, b, c, d, e, f]) (pa : P a) (pb : P b) (pc : P c) (pd : P d) (pe : P e) (pf : P f) : P x := by
  simp only [List.mem_cons, List.not_mem_nil, or_false] at m
  obtain rfl | rfl | rfl | rfl | rfl | rfl := m <;> assumption
theorem out6 {a b c d e f x : Addr} (m : x ∉ [a, b, c, d, e, f]) : x ≠ a ∧ x ≠ b ∧ x ≠ c ∧ x ≠ d ∧ x ≠ e ∧ x ≠ f := by
  simp only [List.mem_cons, List.not_mem_nil, or_false, not_or] at m
  exact m
/-- the own cells of a zip of three at turn n -/
structure Zip3At (ta tb tc : Bool) (a b c z TI TO i1 i2 i3 : Addr) (n : Nat) (h : Heap) : Prop where
  zip : IsZip h z TI TO .none
  src : IsTupOf3 h TI (.ref i1) (.ref i2) (.ref i3)
  out : ∃ x y u, IsTupOf3 h TO x y u
  one : IterB ta h i1 a n
  two : IterB tb h i2 b n
  tri : IterB tc h i3 c n
theorem turn_zip3 {P : Program} {w : World} {K : PySem.W.Frag} {elts : List Expr} {kk : Nat} {tpos : Pos} {ta tb tc : Bool} {a b c z TI TO i1 i2 i3 : Addr} (S : ZipSep3 z TI TO i1 i2 i3 [i1, a] [i2, b] [i3, c]) :
    Turn P w K (.Tuple elts kk tpos) (Itz3 K ta tb tc a b c) [z, TI, TO, i1, i2, i3] z (Zip3At ta tb tc a b c z TI TO i1 i2 i3) where
  mem := List.mem_cons_self ..
  obj := fun n h Z x m => by
    obtain ⟨p, q, r, g⟩ := Z.out
    exact one6 (P := fun x => ∃ o, h.get? x = some o ∧ ∀ v, o.data ≠ .cell v) m ⟨_, Z.zip, fun _ e => nomatch e⟩ ⟨_, Z.src, fun _ e => nomatch e⟩ ⟨_, g, fun _ e => nomatch e⟩ Z.one.obj Z.two.obj Z.tri.obj
  keep := fun n h h' Z k => by
    obtain ⟨p, q, r, g⟩ := Z.out
    exact ⟨k _ (by simp) _ Z.zip, k _ (by simp) _ Z.src, ⟨p, q, r, k _ (by simp) _ g⟩, Z.one.at fun o => k _ (by simp) o, Z.two.at fun o => k _ (by simp) o, Z.tri.at fun o => k _ (by simp) o⟩
  item := by
    rintro X rfl rfl rfl calm n pins s σ H E I own Z ⟨xs, ys, zs, x, y, u, sx, sy, sz, ex, ey, ez⟩
    obtain ⟨p, q, r, gO⟩ := Z.out
    obtain ⟨us, vx, bx⟩ := seqB I sx
    obtain ⟨ws, vy, by'⟩ := seqB I sy
    obtain ⟨ts, vz, bz⟩ := seqB I sz
    obtain ⟨ux, eu, ru⟩ := vx.get ex
    obtain ⟨uy, ew, rw'⟩ := vy.get ey
    obtain ⟨uz, et, rt⟩ := vz.get ez
    have quiet := I.ok.hd calm
    have old := Heap.lt_size Z.zip
    have lt1 : n < us.toArray.size := by rw [List.size_toArray]; exact (List.getElem?_eq_some_iff.mp eu).1
    have lt2 : n < ws.toArray.size := by rw [List.size_toArray]; exact (List.getElem?_eq_some_iff.mp ew).1
    have lt3 : n < ts.toArray.size := by rw [List.size_toArray]; exact (List.getElem?_eq_some_iff.mp et).1
    refine wpAny_pyNext_zipD3_item (A := X.A) S (drawsB (A := X.A.in1) quiet ta i1 a (isB_ne bx Z.one) us.toArray) (drawsB (A := X.A.in1) quiet tb i2 b (isB_ne by' Z.two) ws.toArray) (drawsB (A := X.A.in1) quiet tc i3 c (isB_ne bz Z.tri) ts.toArray) Z.zip Z.src gO ⟨Z.one, bx⟩ ⟨Z.two, by'⟩ ⟨Z.tri, bz⟩ lt1 lt2 lt3
      fun c1 c2 c3 h1 tk d1 d2 d3 Z1 O1 n1 n2 n3 T1 _ k1 => ?_
    have f1 : ux = c1 := Option.some.inj (eu.symm.trans (by simpa using d1))
    have f2 : uy = c2 := Option.some.inj (ew.symm.trans (by simpa using d2))
    have f3 : uz = c3 := Option.some.inj (et.symm.trans (by simpa using d3))
    subst f1 f2 f3
    refine ⟨_, rfl, wpAny_letOwnedTupleGo_zip (s := { s with heap := h1, toks := tk }) Z1 fun h2 Z2 rest => ?_⟩
    have T2 := (rest.2 _ (Nat.ne_of_gt old)).trans T1
    have laid : ObjOk X.prog X.w (upd H s.heap.objs.size (.tup [x, y, u])) h2 s.heap.objs.size (.tup [x, y, u]) := ⟨(by decide : 3 ≤ sizeLine), [ux, uy, uz], .cons ru (.cons rw' (.cons rt .nil)), _, T2, rfl, _, rfl⟩
    have J := I.turnedNew (t' := tk) (ch := [z, TI, TO, i1, i2, i3]) (h' := h2) (fun x o m e => by
      obtain ⟨m1, m2, m3, m4, m5, m6⟩ := out6 m
      exact (rest.2 x m1).trans (k1 x o m1 m3 m4 m5 m6 e)) own (Nat.le_refl _) laid
    refine ⟨.ref s.heap.objs.size, _, J, rfl, ⟨_, x, y, u, rfl, I.fresh, rfl, fun l e => seqB_inj I sx e ▸ ex, fun l e => seqB_inj I sy e ▸ ey, fun l e => seqB_inj I sz e ▸ ez⟩, ⟨Z2, (rest.2 _ S.TIz).trans (k1 _ _ S.TIz S.TITO S.TIi1 S.TIi2 S.TIi3 Z.src), ⟨ux, uy, uz, (rest.2 _ S.TOz).trans O1⟩,
      n1.1.at fun o => (rest.2 _ (Ne.symm S.zi1)).trans, n2.1.at fun o => (rest.2 _ (Ne.symm S.zi2)).trans, n3.1.at fun o => (rest.2 _ (Ne.symm S.zi3)).trans⟩, fun x m => ?_⟩
    have lt : x < s.heap.objs.size := by
      obtain ⟨_, g1, _⟩ := Z.one.obj
      obtain ⟨_, g2, _⟩ := Z.two.obj
      obtain ⟨_, g3, _⟩ := Z.tri.obj
      exact one6 (P := fun x => x < s.heap.objs.size) m old (Heap.lt_size Z.src) (Heap.lt_size gO) (Heap.lt_size g1) (Heap.lt_size g2) (Heap.lt_size g3)
    exact (upd_ne (Nat.ne_of_lt lt)).trans (own x m).1
  done := by
    rintro X rfl rfl rfl calm n pins s σ H E I own Z ⟨xs, ys, zs, sx, sy, sz, l1, l2, l3, stop⟩
    obtain ⟨p, q, r, gO⟩ := Z.out
    obtain ⟨us, vx, bx⟩ := seqB I sx
    obtain ⟨ws, vy, by'⟩ := seqB I sy
    obtain ⟨ts, vz, bz⟩ := seqB I sz
    have quiet := I.ok.hd calm
    have s1 : us.toArray.size = xs.length := by rw [List.size_toArray, vx.length]
    have s2 : ws.toArray.size = ys.length := by rw [List.size_toArray, vy.length]
    have s3 : ts.toArray.size = zs.length := by rw [List.size_toArray, vz.length]
    refine wpAny_pyNext_zipD3_end (A := X.A) S (drawsB (A := X.A.in1) quiet ta i1 a (isB_ne bx Z.one) us.toArray) (drawsB (A := X.A.in1) quiet tb i2 b (isB_ne by' Z.two) ws.toArray) (drawsB (A := X.A.in1) quiet tc i3 c (isB_ne bz Z.tri) ts.toArray) Z.zip Z.src gO ⟨Z.one, bx⟩ ⟨Z.two, by'⟩ ⟨Z.tri, bz⟩ (by omega) (by omega) (by omega) (by omega)
      fun h1 tk k1 => ⟨rfl, I.turnedL (t' := tk) (ch := [z, TI, TO, i1, i2, i3]) (fun x o m e => ?_) own⟩
    obtain ⟨m1, _, m3, m4, m5, m6⟩ := out6 m
    exact k1 x o m1 m3 m4 m5 m6 e
  self := fun _ _ _ _ _ Z go => wpAny_pyIter_zip Z.zip go

section
variable {X : Cx} {Φ : Fm} {W : WX} {m m1 m0 : Mp} {H H1 : Hp} {S S0 S1 : Sto} {ρ : Env} {σ : L2.St} {pos p2 kpos : Pos} {f g k : Run} {e e2 e3 : Expr} {es : List Expr}
theorem zipT_get : ∀ {x y z : List PV} {i : Nat} {p : PV}, (zipT x y z)[i]? = some p → ∃ a b c, x[i]? = some a ∧ y[i]? = some b ∧ z[i]? = some c ∧ p = .tup [a, b, c]
  | [], y, z, i, p, h => by simp [zipT] at h
  | a :: x, [], z, i, p, h => by simp [zipT] at h
  | a :: x, b :: y, [], i, p, h => by simp [zipT] at h
  | a :: x, b :: y, c :: z, i, p, h => by
    cases i with
    | zero =>
      have e : PV.tup [a, b, c] = p := by simpa [zipT] using h
      exact ⟨a, b, c, rfl, rfl, rfl, e.symm⟩
    | succ i =>
      obtain ⟨a', b', c', h1, h2, h3, h4⟩ := zipT_get (x := x) (y := y) (z := z) (i := i) (by simpa [zipT] using h)
      exact ⟨a', b', c', by simpa using h1, by simpa using h2, by simpa using h3, h4⟩
theorem zipT_len : ∀ (x y z : List PV), (zipT x y z).length = min x.length (min y.length z.length)
  | [], y, z => by simp [zipT]
  | a :: x, [], z => by simp [zipT]
  | a :: x, b :: y, [] => by simp [zipT]
  | a :: x, b :: y, c :: z => by
    show (zipT x y z).length + 1 = _
    rw [zipT_len x y z, List.length_cons, List.length_cons, List.length_cons]
    omega
theorem walk_zip3 {x y z : List PV} {xs ys zs : List V} {a b c : Addr} {ta tb tc : Bool} (hx : ∀ m2 H2, Ext m H m2 H2 → SqB Φ.K H2 a xs ta ∧ RelPs Φ m2 H2 x xs) (hy : ∀ m2 H2, Ext m H m2 H2 → SqB Φ.K H2 b ys tb ∧ RelPs Φ m2 H2 y ys) (hz : ∀ m2 H2, Ext m H m2 H2 → SqB Φ.K H2 c zs tc ∧ RelPs Φ m2 H2 z zs) : WalkR Φ m H true none (zipT x y z) (Itz3 Φ.K ta tb tc a b c) := fun m2 S2 H2 e s _ i => by
  obtain ⟨h1, h2⟩ := hx m2 H2 e
  obtain ⟨h3, h4⟩ := hy m2 H2 e
  obtain ⟨h5, h6⟩ := hz m2 H2 e
  have l1 := h2.length
  have l2 := h4.length
  have l3 := h6.length
  have lz := zipT_len x y z
  refine ⟨fun hi => ⟨xs, ys, zs, xs[i]'(by omega), ys[i]'(by omega), zs[i]'(by omega), h1, h3, h5, List.getElem?_eq_getElem _, List.getElem?_eq_getElem _, List.getElem?_eq_getElem _⟩, fun hi => ?_, fun p v H3 ep yl => ?_⟩
  · exact ⟨xs, ys, zs, h1, h3, h5, by omega, by omega, by omega, by omega⟩
  · obtain ⟨T, u, w, o, ev, hT, eH, z1, z2, z3⟩ := yl
    subst eH
    obtain ⟨p1, p2, p3, q1, q2, q3, rfl⟩ := zipT_get ep
    obtain ⟨v1, w1, r1⟩ := h2.get q1
    obtain ⟨v2, w2, r2⟩ := h4.get q2
    obtain ⟨v3, w3, r3⟩ := h6.get q3
    have e1 := z1 xs h1
    rw [w1] at e1
    cases e1
    have e2 := z2 ys h3
    rw [w2] at e2
    cases e2
    have e3 := z3 zs h5
    rw [w3] at e3
    cases e3
    exact ⟨Ext.new s hT, s.new hT, .inr ⟨rfl, T, [u, w, o], [p1, p2, p3], rfl, ev, upd_same, RelPs.cons (r1.ext (Ext.new s hT)) (RelPs.cons (r2.ext (Ext.new s hT)) (RelPs.cons (r3.ext (Ext.new s hT)) RelPs.nil))⟩⟩
/-- what the three sources tell -/
def zip3V (v w u : PV) (S : Sto) : R PV := withO (seqOf S v) fun x => withO (seqOf S w) fun y => withO (seqOf S u) fun z =>
  match boxOf v, boxOf w, boxOf u with
  | none, none, none => .ok (.lst (zipT x y z)) S
  | _, _, _ => .no
theorem zip3V_ok {v w u : PV} {S : Sto} {m : Mp} {H : Hp} {Rr : It → Hp → Prop} (h : PostI Φ W true m H σ (zip3V v w u S) Rr) : ∃ x y z, seqOf S v = some x ∧ seqOf S w = some y ∧ seqOf S u = some z ∧ boxOf v = none ∧ boxOf w = none ∧ boxOf u = none ∧ PostI Φ W true m H σ (.ok (.lst (zipT x y z)) S) Rr := by
  unfold zip3V at h
  cases ex : seqOf S v with
  | none =>
    rw [ex] at h
    exact h.elim
  | some x =>
    cases ey : seqOf S w with
    | none =>
      rw [ex, ey] at h
      exact h.elim
    | some y =>
      cases ez : seqOf S u with
      | none =>
        rw [ex, ey, ez] at h
        exact h.elim
      | some z =>
        rw [ex, ey, ez] at h
        cases bv : boxOf v with
        | some n =>
          rw [bv] at h
          exact h.elim
        | none =>
          cases bw : boxOf w with
          | some n =>
            rw [bv, bw] at h
            exact h.elim
          | none =>
            cases bu : boxOf u with
            | some n =>
              rw [bv, bw, bu] at h
              exact h.elim
            | none =>
              rw [bv, bw, bu] at h
              exact ⟨x, y, z, rfl, rfl, rfl, rfl, rfl, rfl, h⟩
theorem pi_zip3 {elts : List Expr} {kk : Nat} {tpos : Pos} (hK : X.K = Φ.K) (hg : Gl X "zip") (hm : X.mg "zip" = none) (hp : plainE e = true) (hp2 : plainE e2 = true) (hp3 : plainE e3 = true) (ha : PE X e (tR Φ W f)) (hb : PE X e2 (tR Φ W g)) (hc : PE X e3 (tR Φ W k)) :
    PI X (.Tuple elts kk tpos) (.Call (.Name "zip" p2) [e, e2, e3] [] pos) (tRI Φ W true fun ρ S => (f ρ S).bind fun v S1 => (g ρ S1).bind fun w S2 => (k ρ S2).bind fun u S3 => zip3V v w u S3) := by
  refine ⟨fun pins s σ H R I ⟨m, ρ, S, hs, E, h⟩ => ?_⟩
  have key : tCons (tR Φ W f) (tCons (tR Φ W g) (tCons (tR Φ W k) tNil)) σ H fun vs H1 => ∃ (a b c : Addr) (ta tb tc : Bool) (xs ys zs : List V), vs = [.ref a, .ref b, .ref c] ∧ SqB X.K H1 a xs ta ∧ SqB X.K H1 b ys tb ∧ SqB X.K H1 c zs tc ∧ R (Itz3 X.K ta tb tc a b c) H1 := by
    show tR Φ W f σ H fun x H1 => tR Φ W g σ H1 fun y H2 => tR Φ W k σ H2 fun z H3 => _
    refine ⟨m, ρ, S, hs, E, ?_⟩
    have h : PostI Φ W true m H σ ((f ρ S).bind fun v S1 => (g ρ S1).bind fun w S2 => (k ρ S2).bind fun u S3 => zip3V v w u S3) R := h
    cases hr : f ρ S with
    | no =>
      rw [hr] at h
      exact h
    | ex c S1 =>
      rw [hr] at h
      exact h
    | ok v S1 =>
      rw [hr] at h
      intro m1 H1 xv e1 s1 r1
      refine ⟨m1, ρ, S1, s1, E.ext e1, ?_⟩
      have h : PostI Φ W true m H σ ((g ρ S1).bind fun w S2 => (k ρ S2).bind fun u S3 => zip3V v w u S3) R := h
      cases hr2 : g ρ S1 with
      | no =>
        rw [hr2] at h
        exact h
      | ex c S2 =>
        rw [hr2] at h
        exact fun cls d m' H' e2 s2 x2 => h cls d m' H' (e1.trans e2) s2 x2
      | ok w S2 =>
        rw [hr2] at h
        intro m2 H2 yv e2 s2 r2
        refine ⟨m2, ρ, S2, s2, (E.ext e1).ext e2, ?_⟩
        have h : PostI Φ W true m H σ ((k ρ S2).bind fun u S3 => zip3V v w u S3) R := h
        cases hr3 : k ρ S2 with
        | no =>
          rw [hr3] at h
          exact h
        | ex c S3 =>
          rw [hr3] at h
          exact fun cls d m' H' e3 s3 x3 => h cls d m' H' ((e1.trans e2).trans e3) s3 x3
        | ok u S3 =>
          rw [hr3] at h
          intro m3 H3 zv e3 s3 r3
          obtain ⟨x, y, z, ex, ey, ez, bv, bw, bu, h⟩ := zip3V_ok (v := v) (w := w) (u := u) (S := S3) h
          obtain ⟨l, el, kk⟩ := h
          cases el
          have rv := (r1.ext e2).ext e3
          have rw' := r2.ext e3
          obtain ⟨a, xs, ea, q1, _, _⟩ := seqB_stay (B := fun _ => False) s3 rv ex bv (fun a z => z.elim)
          obtain ⟨b, ys, eb, q4, _, _⟩ := seqB_stay (B := fun _ => False) s3 rw' ey bw (fun a z => z.elim)
          obtain ⟨c, zs, ec, q7, _, _⟩ := seqB_stay (B := fun _ => False) s3 r3 ez bu (fun a z => z.elim)
          refine ⟨a, b, c, isT v, isT w, isT u, xs, ys, zs, by rw [ea, eb, ec], by rw [hK]; exact q1, by rw [hK]; exact q4, by rw [hK]; exact q7, ?_⟩
          rw [hK]
          refine kk m3 H3 _ ((e1.trans e2).trans e3) s3 fun B hB => ?_
          obtain ⟨a', xs', ea', _, _, z3⟩ := seqB_stay (B := B) s3 rv ex bv hB
          obtain ⟨b', ys', eb', _, _, z6⟩ := seqB_stay (B := B) s3 rw' ey bw hB
          obtain ⟨c', zs', ec', _, _, z9⟩ := seqB_stay (B := B) s3 r3 ez bu hB
          rw [ea] at ea'
          cases ea'
          rw [eb] at eb'
          cases eb'
          rw [ec] at ec'
          cases ec'
          exact walk_zip3 (Φ := Φ.bo B) z3 z6 z9
  have h1 := star_plain hp [e2, e3] X.env
  have h2 : (backTo pos (starEach [e2, e3] X.env)).any (·.1) = false := stars_plain (es := [e2, e3]) (by show (plainE e2 && (plainE e3 && true)) = true; rw [hp2, hp3]; rfl) pos X.env
  refine Call_ (ld_blt I hg hm PyProof.Rows.boot_zip (PyProof.Rows.callWith_type1 (thn ((pa_cons ha (pa_cons hb (pa_cons hc pa_nil (star_plain hp3 [] X.env)) (star_plain hp2 [e3] X.env)) h1).run pos pins s σ H _ I key) fun us s1 ⟨vs, H1, I1, r1, q1⟩ => ?_) h1 h2))
  obtain ⟨a, b, c, ta, tb, tc, xs, ys, zs, ex, hqx, hqy, hqz, q⟩ := q1
  subst ex
  cases r1 with
  | cons r rr =>
    cases rr with
    | cons r' rr =>
      cases rr with
      | cons r'' rr =>
        cases rr
        cases r
        cases r'
        cases r''
        have young : ∀ x, x ∈ [s1.heap.objs.size + 5, s1.heap.objs.size + 3, s1.heap.objs.size + 4, s1.heap.objs.size, s1.heap.objs.size + 1, s1.heap.objs.size + 2] → FpOk X pins H1 x := fun x m => by
          have up : s1.heap.objs.size ≤ x := one6 (P := fun x => s1.heap.objs.size ≤ x) m (Nat.le_add_right _ 5) (Nat.le_add_right _ 3) (Nat.le_add_right _ 4) (Nat.le_refl _) (Nat.le_add_right _ 1) (Nat.le_add_right _ 2)
          exact I1.fpOk up (I1.hok.fresh up)
        obtain ⟨its, rv, p1⟩ := seqB I1 hqx
        obtain ⟨its2, rv2, p2'⟩ := seqB I1 hqy
        obtain ⟨its3, rv3, p3'⟩ := seqB I1 hqz
        have la : a < s1.heap.objs.size := isB_lt p1
        have lb : b < s1.heap.objs.size := isB_lt p2'
        have lc : c < s1.heap.objs.size := isB_lt p3'
        have fin : ∀ h', IsZip h' (s1.heap.objs.size + 5) (s1.heap.objs.size + 3) (s1.heap.objs.size + 4) .none → IsTupOf3 h' (s1.heap.objs.size + 3) (.ref s1.heap.objs.size) (.ref (s1.heap.objs.size + 1)) (.ref (s1.heap.objs.size + 2)) →
            IsTupOf3 h' (s1.heap.objs.size + 4) .none .none .none → IterB ta h' s1.heap.objs.size a 0 → IterB tb h' (s1.heap.objs.size + 1) b 0 → IterB tc h' (s1.heap.objs.size + 2) c 0 → (∀ x o, s1.heap.get? x = some o → h'.get? x = some o) →
            wpAny (model X.prog X.w) X.A (pyIter (.ref (s1.heap.objs.size + 5))) (PIE X pins σ (.Tuple elts kk tpos) R) X.xe { s1 with heap := h' } := fun h' hz hTI hTO i1 i2 i3 hk => by
          have I2 : L2.Inv X pins σ H1 { s1 with heap := h' } := I1.kept (t' := s1.toks) hk
          exact wpAny_pyIter_zip hz ⟨s1.heap.objs.size + 5, [s1.heap.objs.size + 5, s1.heap.objs.size + 3, s1.heap.objs.size + 4, s1.heap.objs.size, s1.heap.objs.size + 1, s1.heap.objs.size + 2], _, _, H1, rfl, I2,
            turn_zip3 (zip_sep3 (fp1 := [a]) (fp2 := [b]) (fp3 := [c]) (fun x hc => by have e : x = a := by simpa using hc
                                                                                       rw [e]; exact la) (fun x hc => by have e : x = b := by simpa using hc
                                                                                                                         rw [e]; exact lb) (fun x hc => by have e : x = c := by simpa using hc
                                                                                                                                                           rw [e]; exact lc)), ⟨hz, hTI, ⟨_, _, _, hTO⟩, i1, i2, i3⟩, young, q⟩
        have beg : ∀ (t : Bool) (a : Addr) (xs : Array Value), IsB t s1.heap a xs → ∃ (o : Obj) (G : Heap → Prop), Begins (.ref a) o G ∧ G s1.heap ∧ ∀ h' i, h'.get? i = some o → IterB t h' i a 0 := fun t a xs p => by
          cases t with
          | false => exact ⟨_, _, begins_list a xs, p, fun h' i g => ⟨_, g, rfl, rfl⟩⟩
          | true => exact ⟨_, _, begins_tuple a xs, p, fun h' i g => ⟨_, g, rfl, rfl⟩⟩
        obtain ⟨o1, G1, B1, y1, w1⟩ := beg ta a _ p1
        obtain ⟨o2, G2, B2, y2, w2⟩ := beg tb b _ p2'
        obtain ⟨o3, G3, B3, y3, w3⟩ := beg tc c _ p3'
        exact zip_begins3 B1 B2 B3 y1 y2 y3 fun h' hz hTI hTO g1 g2 g3 hsz hk => fin h' hz hTI hTO (w1 _ _ g1) (w2 _ _ g2) (w3 _ _ g3) hk
end
end Rn
set_option maxHeartbeats 2000010
/-! enumerate of a tuple: the iterator of a tuple under an enumerate, told by Draws. -/
namespace Rn
open L2 PySem PyProof.Rows PySem.Spec

/-- an enumerate that starts at 0 over the iterator at i -/
abbrev enO (i : Addr) : Obj := { cls := .type "enumerate", data := .fields #[.none, .bool false, .ref i, rawInt 0, .none, .none] }
abbrev tiO (a : Addr) : Obj := { cls := .type "tuple_iterator", data := .fields #[.ref a, .int 0 0] }
/-- the heap with both -/
abbrev enH (h : Heap) (o : Obj) : Heap := (h.push o).push (enO h.objs.size)
theorem meets_enumB1 {v : Value} {o : Obj} {P : Heap → Prop} (B : Begins v o P) :
    Meets (Builtin.«enumerate.__new__» ⟨[.type "enumerate", v], []⟩) (fun _ R s => P s.heap ∧ R (.ok (.ret (.ref (s.heap.push o).objs.size))) { s with heap := enH s.heap o }) :=
  Meets.of_wp fun prog w A R st ⟨stands, last⟩ => by
    have ok := sub_enumerate
    cases st with
    | mk heap gens drawn toks os =>
      have begun : ∀ {A' : Around} {E : Value → Shared → Prop} {Q : Value → Shared → Prop}, Q (.ref heap.objs.size) ⟨heap.push o, gens, drawn, toks, os⟩ → wpAny (model prog w) A' (pyIter v) Q E ⟨heap, gens, drawn, toks, os⟩ := by
        intro A' E Q q
        exact B.iter prog w A' E ⟨heap, gens, drawn, toks, os⟩ Q stands q
      wp_walk using begun
      refine wpAny_stack_any fun _ => wpAny_pure ?_
      split
      · rename_i kind _ _ _ _ _
        cases (kind == Value.type "enumerate") <;> (wp_walk using begun; exact ⟨_, rfl, last⟩)
      · wp_walk using begun
        exact ⟨_, rfl, last⟩
theorem enH_size (h : Heap) (a : Addr) : (h.push (tiO a)).objs.size = h.objs.size + 1 := Heap.size_push ..
theorem enH_enum (h : Heap) (a : Addr) : IsEnum (enH h (tiO a)) (h.objs.size + 1) h.objs.size 0 .none := by
  rw [← enH_size h a]
  exact Heap.get?_push_size (h.push (tiO a)) (o := enO h.objs.size) rfl
theorem enH_iter (h : Heap) (a : Addr) : (enH h (tiO a)).IsTupleIter h.objs.size a 0 := ⟨_, Heap.get?_push_of_some _ (Heap.get?_push_size _ rfl), rfl, rfl⟩
theorem enH_old {h : Heap} {a b : Addr} {u : Obj} (e : h.get? b = some u) : (enH h (tiO a)).get? b = some u := Heap.get?_push_of_some _ (Heap.get?_push_of_some _ e)
theorem call_enumT {prog : Program} {w : World} {A : Around} {E Q : Value → Shared → Prop} {st : Shared} {a : Addr} {items : Array Value} (tp : st.heap.IsTuple a items) (last : Q (.ref (st.heap.objs.size + 1)) { st with heap := enH st.heap (tiO a) }) : wpAny (model prog w) A (call (.type "enumerate") [.ref a]) Q E st := by
  have made := meets_enumB1 (begins_tuple a items)
  refine callType_new F.called_enumerate (by decide) (F.typeCall_enumerate_1 _) (F.newCall_enumerate_1 _) (fun b => F.args_object_init_2 b _) F.entry_enumerate_new made ⟨tp, ?_⟩
  show _ ∧ _
  rw [show (st.heap.push { cls := .type "tuple_iterator", data := .fields #[.ref a, .int 0 0] }).objs.size = st.heap.objs.size + 1 from enH_size st.heap a]
  exact ⟨⟨_, enH_enum st.heap a, rfl⟩, last⟩
/-- the tuple at a, each item in a new pair -/
def IteT (K : PySem.W.Frag) (a : Addr) : It where
  go := fun i H => ∃ (xs : List V) (x : V), SqT K H a xs ∧ xs[i]? = some x
  yld := fun i H v H' => ∃ T x, v = .ref T ∧ H T = none ∧ H' = upd H T (.tup [.int (i : Nat), x]) ∧ ∀ xs, SqT K H a xs → xs[i]? = some x
  stop := fun i H => ∃ xs : List V, SqT K H a xs ∧ xs.length = i
/-- how the three cells stand at turn i -/
structure EnSt (a e it : Addr) (i : Nat) (h : Heap) : Prop where
  en : ∃ was, IsEnum h e it ((i : Nat) : Int) was
  tp : h.IsTupleIter it a i
  n1 : e ≠ it
  n2 : a ≠ it
  n3 : a ≠ e
theorem two_of {a b c : Addr} (h : c ∈ [a, b]) : c = a ∨ c = b := by
  have both := List.mem_cons.mp h
  exact both.imp id List.mem_singleton.mp
theorem EnSt.low {a e it : Addr} {i : Nat} {h : Heap} (z : EnSt a e it i h) {b : Addr} (hb : b ∈ [e, it]) : b < h.objs.size := by
  rcases two_of hb with y | y <;> subst y
  · exact Heap.lt_size z.en.choose_spec
  · exact Heap.lt_size z.tp.choose_spec.1
theorem EnSt.item {X : Cx} {a e it : Addr} {i : Nat} {st : Shared} {items : Array Value} {x : Value} {E : Value → Shared → Prop} {Q : Option Value → Shared → Prop} (z : EnSt a e it i st.heap) (hh : X.A.handled = none) (tp : st.heap.IsTuple a items) (hx : items[i]? = some x)
    (last : ∀ h' tk, IsEnumOut h' e it ((i : Int) + 1) x st.heap.objs.size → h'.IsTupleIter it a (i + 1) → h'.get? st.heap.objs.size = some { cls := .type "tuple", data := .seq #[.int i tk, x] } →
      (∀ b u, b ∉ [e, it] → st.heap.get? b = some u → h'.get? b = some u) → Q (some (.ref st.heap.objs.size)) { st with heap := h', toks := tk + 1 }) : wpAny (model X.prog X.w) X.A (pyNext (.ref e)) Q E st := by
  obtain ⟨⟨was, en⟩, ti, n1, n2, n3⟩ := z
  have draws := Draws.tuple (prog := X.prog) (w := X.w) (A := X.A.in1) (show X.A.in1.handled = none from hh) it a n2 items
  have room : i < items.size := (Array.getElem?_eq_some_iff.mp hx).1
  refine wpAny_pyNext_enum_itemD draws en ⟨ti, tp⟩ room n1 (by simp [n1, Ne.symm n3]) fun y h' tk hy out st' new _ kept => ?_
  rw [hx] at hy
  cases hy
  exact last h' tk out st'.1 new fun b u hb q => kept b u (fun y => hb (by rw [y]; exact List.mem_cons_self)) (fun y => hb (by rw [y]; exact List.mem_cons_of_mem _ List.mem_cons_self)) q
theorem turn_enumT {P : Program} {w : World} {K : PySem.W.Frag} {elts : List Expr} {kk : Nat} {tpos : Pos} (a e it : Addr) : Turn P w K (.Tuple elts kk tpos) (IteT K a) [e, it] e (EnSt a e it) where
  mem := List.mem_cons_self
  obj := fun i h z b hb => by
    rcases two_of hb with y | y <;> subst y
    · obtain ⟨was, en⟩ := z.en
      exact ⟨_, en, fun v q => nomatch q⟩
    · obtain ⟨o, e1, _, e2⟩ := z.tp
      refine ⟨o, e1, fun v q => ?_⟩
      rw [e2] at q
      cases q
  keep := fun i h h' z k => ⟨z.en.imp fun _ q => k e List.mem_cons_self _ q, z.tp.at fun o q => k it (List.mem_cons_of_mem _ List.mem_cons_self) o q, z.n1, z.n2, z.n3⟩
  item := fun {X} eP ew eK calm i pins st σ H E I free z hg => by
    subst eP ew eK
    obtain ⟨xs, x, hq, hx⟩ := hg
    obtain ⟨its, rel, tp, _⟩ := I.tuple hq
    obtain ⟨u, hu, ru⟩ := rel.get hx
    refine z.item (I.ok.hd calm) tp (x := u) (by rw [List.getElem?_toArray]; exact hu) fun h' tk out ti new kept => ⟨_, rfl, ?_⟩
    have top := z.low (b := e) List.mem_cons_self
    refine wpAny_letOwnedTupleGo_enum (s := { st with heap := h', toks := tk + 1 }) out fun h2 en2 sb => ?_
    have at2 : h2.get? st.heap.objs.size = some { cls := .type "tuple", data := .seq #[.int i tk, u] } := (sb.2 _ (Nat.ne_of_gt top)).trans new
    have pair : ObjOk X.prog X.w (upd H st.heap.objs.size (.tup [.int (i : Nat), x])) h2 st.heap.objs.size (.tup [.int (i : Nat), x]) := by
      refine ⟨?_, [.int i tk, u], .cons ⟨_, rfl⟩ (.cons ru .nil), _, at2, rfl, _, rfl⟩
      show 2 ≤ sizeLine
      decide
    have all : ∀ b o, b ∉ [e, it] → st.heap.get? b = some o → h2.get? b = some o := fun b o hb q => (sb.2 b fun y => hb (by rw [y]; exact List.mem_cons_self)).trans (kept b o hb q)
    have I1 : Inv X pins σ (upd H st.heap.objs.size (.tup [.int (i : Nat), x])) { st with heap := h2, toks := tk + 1 } := Inv.turnedNew I all free (Nat.le_refl _) pair
    have next : EnSt a e it (i + 1) h2 := ⟨⟨u, by rw [show ((i + 1 : Nat) : Int) = (i : Int) + 1 from rfl]; exact en2⟩, ti.at fun o q => (sb.2 it (Ne.symm z.n1)).trans q, z.n1, z.n2, z.n3⟩
    refine ⟨.ref st.heap.objs.size, _, I1, rfl, ⟨_, x, rfl, I.hok.fresh (Nat.le_refl _), rfl, fun ys hy => ?_⟩, next, fun b hb => ?_⟩
    · rw [I.tuple_inj hy hq]
      exact hx
    · rw [upd_ne (Nat.ne_of_lt (z.low hb))]
      exact (free b hb).1
  done := fun {X} eP ew eK calm i pins st σ H E I free z hg => by
    subst eP ew eK
    obtain ⟨xs, hq, rfl⟩ := hg
    obtain ⟨its, rel, tp, _⟩ := I.tuple hq
    obtain ⟨⟨was, en⟩, ti, n1, n2, n3⟩ := z
    obtain ⟨g0, g1, _, g3, g4, g5⟩ := free it (List.mem_cons_of_mem _ List.mem_cons_self)
    have size1 : xs.length = its.toArray.size := by rw [List.size_toArray]; exact rel.length
    rw [size1] at en ti
    exact wpAny_pyNext_enum_endD (Draws.tuple (show X.A.in1.handled = none from I.ok.hd calm) it a n2 its.toArray) en ⟨ti, tp⟩ fun h' but => ⟨rfl, Inv.turned I (t' := st.toks) (fun b o hb q => but b o hb q) g0 g1 g3 g4 g5⟩
  self := fun A i st Q E z h => wpAny_pyIter_enum z.en.choose_spec h
def iEnum2 (K : PySem.W.Frag) (ta : TA) : TI := fun σ H R => ta σ H fun vs H1 => ∃ a xs, vs = [.ref a] ∧ ((SqL K H1 a xs ∧ R (Ite K a) H1) ∨ (SqT K H1 a xs ∧ R (IteT K a) H1))
theorem pi_enum2 {X : Cx} {e : Expr} {ta : TA} {p pos tpos : Pos} {elts : List Expr} {kk : Nat} (hg : Gl X "enumerate") (hm : X.mg "enumerate" = none) (ha : PA X [e] ta) (hs : starEach [e] X.env = [(false, eval e X.env)]) :
    PI X (.Tuple elts kk tpos) (.Call (.Name "enumerate" p) [e] [] pos) (iEnum2 X.K ta) := PI.mk fun pins st σ H R I h => by
  have args := thn (ha.run pos pins st σ H _ I h) (Q' := fun us s1 => wpAny (model X.prog X.w) X.A (call (.type "enumerate") us) (fun v s2 => wpAny (model X.prog X.w) X.A (pyIter v) (PIE X pins σ (.Tuple elts kk tpos) R) X.xe s2) X.xe s1) fun us s1 ⟨vs, H1, I1, r1, a, xs, ex, q⟩ => by
    subst ex
    obtain rfl := Vals.ref1 r1
    have beyond : ∀ b ∈ [s1.heap.objs.size + 1, s1.heap.objs.size], s1.heap.objs.size ≤ b := fun b hb => by
      rcases two_of hb with y | y
      · rw [y]
        exact Nat.le_succ _
      · exact Nat.le_of_eq y.symm
    have open_ : ∀ b ∈ [s1.heap.objs.size + 1, s1.heap.objs.size], _ := fun b hb => I1.fpOk (beyond b hb) (I1.hok.fresh (beyond b hb))
    rcases q with ⟨hq, last⟩ | ⟨hq, last⟩
    · obtain ⟨its, _, pl, _⟩ := I1.list hq
      exact call_enumerate_list pl.isList fun h' en ti _ kept => wpAny_pyIter_enum en ⟨_, _, _, _, H1, rfl, I1.kept (t' := s1.toks) kept, turn_enum a _ _, ⟨⟨.none, en⟩, ti, Nat.succ_ne_self _⟩, open_, last⟩
    · obtain ⟨its, _, tp, _⟩ := I1.tuple hq
      have la : a < s1.heap.objs.size := Heap.lt_size tp.choose_spec.1
      exact call_enumT tp (wpAny_pyIter_enum (enH_enum s1.heap a) ⟨_, _, _, _, H1, rfl, I1.kept (t' := s1.toks) fun b o => enH_old, turn_enumT a _ _, ⟨⟨.none, enH_enum s1.heap a⟩, enH_iter s1.heap a, Nat.succ_ne_self _, Nat.ne_of_lt la, Nat.ne_of_lt (Nat.lt_succ_of_lt la)⟩, open_, last⟩)
  exact Call_ (ld_blt I hg hm boot_enumerate (PyProof.Rows.callWith_type1 args hs rfl))
end Rn
set_option maxHeartbeats 1000007
/-! The runner is right: enumerate; reversed lists, tuples. -/
namespace Rn
open L2 PySem PyProof.Rows PySem.Spec

section
variable {X : Cx} {Φ : Fm} {W : WX} {m m1 m0 : Mp} {H H1 : Hp} {S S0 S1 : Sto} {ρ : Env} {σ : L2.St} {pos p2 kpos : Pos} {f g : Run} {e e2 : Expr} {es : List Expr}
theorem enumL_get : ∀ {x : List PV} {k i : Nat} {p : PV}, (enumL k x)[i]? = some p → ∃ a, x[i]? = some a ∧ p = .tup [.int ((k + i : Nat) : Int), a]
  | [], k, i, p, h => by simp [enumL] at h
  | a :: x, k, i, p, h => by
    cases i with
    | zero =>
      have e : PV.tup [.int k, a] = p := by simpa [enumL] using h
      exact ⟨a, rfl, e.symm⟩
    | succ i =>
      obtain ⟨a', h1, h2⟩ := enumL_get (x := x) (k := k + 1) (i := i) (by simpa [enumL] using h)
      refine ⟨a', by simpa using h1, ?_⟩
      rw [h2, show k + 1 + i = k + (i + 1) by omega]
theorem enumL_len : ∀ (x : List PV) (k : Nat), (enumL k x).length = x.length
  | [], k => rfl
  | a :: x, k => by
    show (enumL (k + 1) x).length + 1 = _
    rw [enumL_len x, List.length_cons]
theorem walk_enum {x : List PV} {xs : List V} {a : Addr} (hx : ∀ m2 H2, Ext m H m2 H2 → SqL Φ.K H2 a xs ∧ RelPs Φ m2 H2 x xs) : WalkR Φ m H true none (enumL 0 x) (Ite Φ.K a) := fun m2 S2 H2 e s _ i => by
  obtain ⟨h1, h2⟩ := hx m2 H2 e
  have l1 := h2.length
  have lz := enumL_len x 0
  refine ⟨fun hi => ⟨xs, xs[i]'(by omega), h1, List.getElem?_eq_getElem _⟩, fun hi => ⟨xs, h1, by omega⟩, fun p v H3 ep yl => ?_⟩
  obtain ⟨T, u, ev, hT, eH, z1⟩ := yl
  subst eH
  obtain ⟨p1, q1, rfl⟩ := enumL_get ep
  obtain ⟨v1, w1, r1⟩ := h2.get q1
  have e1 := z1 xs h1
  rw [w1] at e1
  cases e1
  refine ⟨Ext.new s hT, s.new hT, .inr ⟨rfl, T, [.int (i : Nat), u], _, rfl, ev, upd_same, RelPs.cons ?_ (RelPs.cons (r1.ext (Ext.new s hT)) RelPs.nil)⟩⟩
  simp only [RelP, Nat.zero_add]
theorem walk_enumT {x : List PV} {xs : List V} {a : Addr} (hx : ∀ m2 H2, Ext m H m2 H2 → SqT Φ.K H2 a xs ∧ RelPs Φ m2 H2 x xs) : WalkR Φ m H true none (enumL 0 x) (IteT Φ.K a) := fun m2 S2 H2 e s _ i => by
  obtain ⟨h1, h2⟩ := hx m2 H2 e
  have l1 := h2.length
  have lz := enumL_len x 0
  refine ⟨fun hi => ⟨xs, xs[i]'(by omega), h1, List.getElem?_eq_getElem _⟩, fun hi => ⟨xs, h1, by omega⟩, fun p v H3 ep yl => ?_⟩
  obtain ⟨T, u, ev, hT, eH, z1⟩ := yl
  subst eH
  obtain ⟨p1, q1, rfl⟩ := enumL_get ep
  obtain ⟨v1, w1, r1⟩ := h2.get q1
  have e1 := z1 xs h1
  rw [w1] at e1
  cases e1
  refine ⟨Ext.new s hT, s.new hT, .inr ⟨rfl, T, [.int (i : Nat), u], _, rfl, ev, upd_same, RelPs.cons ?_ (RelPs.cons (r1.ext (Ext.new s hT)) RelPs.nil)⟩⟩
  simp only [RelP, Nat.zero_add]
def enuV (v : PV) (S : Sto) : R PV := match v with
  | .lst l => .ok (.lst (enumL 0 l)) S
  | .klst l => .ok (.lst (enumL 0 l)) S
  | .tup l => .ok (.lst (enumL 0 l)) S
  | _ => .no
theorem pi_enuR {elts : List Expr} {kk : Nat} {tpos : Pos} (hK : X.K = Φ.K) (hg : Gl X "enumerate") (hm : X.mg "enumerate" = none) (hp : plainE e = true) (ha : PE X e (tR Φ W f)) :
    PI X (.Tuple elts kk tpos) (.Call (.Name "enumerate" p2) [e] [] pos) (tRI Φ W true fun ρ S => (f ρ S).bind fun v S1 => enuV v S1) := by
  refine PI.of (pi_enum2 hg hm (pa_cons ha pa_nil (star_plain hp [] X.env)) (star_plain hp [] X.env)) fun σ H R ⟨m, ρ, S, s, E, h⟩ => ?_
  show tR Φ W f σ H fun x H1 => _
  refine ⟨m, ρ, S, s, E, ?_⟩
  have h : PostI Φ W true m H σ ((f ρ S).bind fun v S1 => enuV v S1) R := h
  cases hr : f ρ S with
  | no =>
    rw [hr] at h
    exact h
  | ex c S1 =>
    rw [hr] at h
    exact h
  | ok v S1 =>
    rw [hr] at h
    have h : PostI Φ W true m H σ (enuV v S1) R := h
    intro m1 H1 x e1 s1 r1
    cases v with
    | lst l =>
      obtain ⟨l', el, k⟩ := h
      cases el
      simp only [RelP] at r1
      obtain ⟨a, xs, rfl, h1, r⟩ := r1
      refine ⟨a, xs, rfl, .inl ⟨by rw [hK]; exact h1.sq, ?_⟩⟩
      rw [hK]
      exact k m1 H1 _ e1 s1 fun B hB => walk_enum (Φ := Φ.bo B) fun m2 H2 e2 => ⟨(h1.ext e2).sq, (r.bo hB).ext e2⟩
    | klst l =>
      obtain ⟨l', el, k⟩ := h
      cases el
      simp only [RelP] at r1
      obtain ⟨a, xs, rfl, h1, r⟩ := r1
      refine ⟨a, xs, rfl, .inl ⟨by rw [hK]; exact h1.sq, ?_⟩⟩
      rw [hK]
      exact k m1 H1 _ e1 s1 fun B hB => walk_enum (Φ := Φ.bo B) fun m2 H2 e2 => ⟨(h1.ext e2).sq, (r.bo hB).ext e2⟩
    | tup l =>
      obtain ⟨l', el, k⟩ := h
      cases el
      simp only [RelP] at r1
      obtain ⟨a, xs, rfl, h1, r⟩ := r1
      refine ⟨a, xs, rfl, .inr ⟨by rw [hK]; exact h1.sq, ?_⟩⟩
      rw [hK]
      exact k m1 H1 _ e1 s1 fun B hB => walk_enumT (Φ := Φ.bo B) fun m2 H2 e2 => ⟨(h1.ext e2).sq, (r.bo hB).ext e2⟩
    | _ => exact h.elim
end
end Rn
set_option maxHeartbeats 1000007
/-! The runner is right: t[::-1], x[a::k]. -/
namespace Rn
open L2 PySem PyProof.Rows PySem.Spec

theorem fm_congr {α β : Type} {f g : α → Option β} : ∀ l : List α, (∀ x ∈ l, f x = g x) → l.filterMap f = l.filterMap g
  | [], _ => rfl
  | x :: l, h => by rw [List.filterMap_cons, List.filterMap_cons, h x (List.mem_cons_self ..), fm_congr l fun y hy => h y (List.mem_cons_of_mem _ hy)]
section
variable {prog :
      Program} {w : World}
/-- the bounds that a slice object comes to, over n items: first place, step, how many -/
def Bounds (prog : Program) (w : World) (s : Shared) (sl : Addr) (n : Nat) (a st : Int) (m : Nat) : Prop :=
  ∀ (A : Around) (E : Value → Shared → Prop) (Q : Int × Int × Nat → Shared → Prop), Q (a, st, m) s → wpAny (model prog w) A (Builtin.Slice.sliceApplied (.ref sl) (pure (n : Int))) Q E s
theorem bounds_of {s : Shared} {sl : Addr} {vl vu vs : Value} {lo hi : Option Int} {st a b : Int} {n m : Nat} (hs : s.heap.IsSliceOf sl vl vu vs) (pl : IsPart vl lo) (pu : IsPart vu hi) (pt : IsPart vs (some st)) (h0 : st ≠ 0)
    (hab : Builtin.Slice.sliceAdjust lo hi st (n : Int) = (a, b)) (hm : Builtin.Slice.slicePlaces a b st = m) : Bounds prog w s sl n a st m := fun A E Q q => by
  obtain ⟨o, at_, cls, dat⟩ := hs
  subst hm
  have step : (st == 0) = false := beq_eq_false_iff_ne.mpr h0
  have last : wpAny (model prog w) A (pure (a, st, Builtin.Slice.slicePlaces a b st) : Sem (Int × Int × Nat)) Q E s := wpAny_pure q
  have body : wpAny (model prog w) A (do
      if st == 0 then rule "slice.step-zero"; raiseError "ValueError" "slice step cannot be zero"
      let start ← Builtin.Slice.slicePartIndex vl
      let stop ← Builtin.Slice.slicePartIndex vu
      let (p, q) := Builtin.Slice.sliceAdjust start stop st (← (pure (n : Int) : Sem Int))
      return (p, st, Builtin.Slice.slicePlaces p q st)) Q E s := by
    simp only [step, Bool.false_eq_true, if_false]
    refine wpAny_bind (HT.slicePart_ pl (wpAny_bind (HT.slicePart_ pu (wpAny_bind (wpAny_pure ?_)))))
    rw [hab]
    exact last
  have parts : wpAny (model prog w) A (Builtin.Slice.sliceFields (.ref sl)) (fun r s' => r = (vl, vu, vs) ∧ s' = s) E s :=
    wpAny_bind (wpAny_field at_ dat (x := vl) rfl (wpAny_bind (wpAny_field at_ dat (x := vu) rfl (wpAny_bind (wpAny_field at_ dat (x := vs) rfl (wpAny_pure ⟨rfl, rfl⟩))))))
  refine wpAny_bind (thn parts fun r s' ⟨e1, e2⟩ => ?_)
  subst e1 e2
  exact wpAny_bind (HT.slicePart_ pt body)
/-- t[lo:hi:st] of a tuple, a step that is not 1: a new tuple of the items picked -/
theorem tuple_picked {A : Around} {E : Value → Shared → Prop} {s : Shared} {t sl : Addr} {its : Array Value} {vl vu vs : Value} {a st : Int} {m : Nat} {ys : List Value} {Q : Value → Shared → Prop} (ht : IsTup s.heap t its) (hs : s.heap.IsSliceOf sl vl vu vs) (bd : Bounds prog w s sl its.size a st m) (h1 : st ≠ 1)
    (hy : ((List.range m).filterMap fun (k : Nat) => its[(a + (k : Int) * st).toNat]?).toArray = ys.toArray) (hz : ys.length ≤ sizeLine) (q : Q (.ref s.heap.objs.size) { s with heap := s.heap.push { cls := .type "tuple", data := .seq ys.toArray } }) : wpAny (model prog w) A (getItem (.ref t) (.ref sl)) Q E s := by
  have isSl : s.TypeIs (.ref sl) "slice" := let ⟨o, e, c, _⟩ := hs; ⟨o, e, c⟩
  have fits : sizeOk (.seq ys.toArray) := by
    show ys.toArray.size ≤ _
    rwa [List.size_toArray]
  have part : (a == 0 && st == 1 && m == its.size) = false := by rw [beq_eq_false_iff_ne.mpr h1, Bool.and_false, Bool.false_and]
  unfold getItem
  try with_reducible
        refine wpAny_holding ?_
  try (refine wpAny_bind (wpAny_pure ?_))
  refine wpAny_bind (wpAny_sequenceKey ht.typeIs (by decide) (wpAny_bind (wpAny_callSpecial?_slot (name := "__getitem__") ht.typeIs slot_tuple_getitem (wpAny_call_entry slot_tuple_getitem ht.typeIs entry_tuple_getitem ?_ (args_tuple_getitem _ _)))))
  refine wpAny_bind (m := Builtin.Tuple.tupleItemsOf (.ref t)) (tupleItemsOf_ ht (wpAny_bind (wpAny_typeOf isSl ?_)))
  rw [if_pos (by decide)]
  refine wpAny_bind (bd _ _ _ ?_)
  show wpAny _ _ (if (a == 0 && st == 1 && m == its.size) = true then _ else _) _ _ s
  rw [part, if_neg Bool.false_ne_true, hy]
  first
    | exact wpAny_bind (m := Builtin.Tuple.tupleExact _) (wpAny_newObj_type (wpAny_pure ⟨.ref s.heap.objs.size, rfl, wpAny_pure q⟩) fits)
    | exact wpAny_bind (wpAny_bind (m := Builtin.Tuple.tupleExact _) (wpAny_newObj_type (wpAny_pure (wpAny_pure ⟨.ref s.heap.objs.size, rfl, wpAny_pure q⟩)) fits))
theorem rev_bounds (n : Nat) : Builtin.Slice.sliceAdjust none none (-1) (n : Int) = ((n : Int) - 1, -1) := rfl
theorem rev_places (n : Nat) : Builtin.Slice.slicePlaces ((n : Int) - 1) (-1) (-1) = n := by
  have neg : ¬ ((-1 : Int) > 0) := by decide
  simp only [Builtin.Slice.slicePlaces, neg, if_false, show (- (-1) : Int) = 1 from rfl, Int.ediv_one]
  split <;> omega
theorem pick_rev (xs : Array Value) : ((List.range xs.size).filterMap fun (k : Nat) => xs[(((xs.size : Int) - 1) + (k : Int) * (-1)).toNat]?).toArray = xs.toList.reverse.toArray := by
  rw [← PySem.W.krv_pick xs]
  show _ = ((sliceRange _ _ _).filterMap _).toArray
  rw [PySem.W.krv_bounds, PySem.W.krv_sliceRange, List.filterMap_map]
  refine congrArg List.toArray (fm_congr _ fun k hk => ?_)
  have lt := List.mem_range.mp hk
  exact congrArg (fun i => xs[i]?) (by dsimp only; omega)
end

section
variable {X : Cx} {Φ : Fm} {W : WX} {m m1 m0 : Mp} {H H1 : Hp} {S S0 S1 : Sto} {ρ : Env} {σ : L2.St} {p1 p2 p3 pos : Pos} {f g : Run} {e e2 : Expr} {k : Nat}
/-- the parts of a slice stand in their cells, told one by one -/
theorem pe_stepF {te : TE} {tl : TO} {lo : Option Expr} {st : Expr} {z : Int} {g : List V → Option Int → List V} {ok : Option Int → Prop} (he : PE X e te) (hl : PO X lo tl) (hst : PO X (some st) (fun _ H Q => Q (some z) H)) (hz0 : z ≠ 0) (hz1 : z ≠ 1)
    (hs : ∀ v sl, subscripted (.Slice lo none (some st) p3) false v (.ref sl) = operate [v, .ref sl] (getItem v (.ref sl)))
    (hp : ∀ {xs : List V} {its : List Value} {o : Option Int}, ok o → Vals xs its → ∃ ys a b m, Vals (g xs o) ys ∧ ys.length ≤ its.length ∧ slicePick its.toArray o none (some z) = ys.toArray ∧ Builtin.Slice.sliceAdjust o none z (its.length : Int) = (a, b) ∧ Builtin.Slice.slicePlaces a b z = m ∧
      ((List.range m).filterMap fun (k : Nat) => its.toArray[(a + (k : Int) * z).toNat]?).toArray = ys.toArray) :
    PE X (.Subscript e (.Slice lo none (some st) p3) pos) (fun σ H Q => te σ H fun x H1 => tl σ H1 fun o H2 => ok o ∧ ∃ a xs, x = .ref a ∧ ((SqL X.K H2 a xs ∧ ∀ p, H2 p = none → Q (.ref p) (upd H2 p (.lst (g xs o)))) ∨ (SqT X.K H2 a xs ∧ NewT H2 (g xs o) Q))) := by
  constructor
  intro pins s σ H Q I h
  refine Subscript_ (thn (he.run pins s σ H _ I h) fun v s1 ⟨x, H1, I1, rx, q1⟩ => wpAny_Slice (thn (hl.run pins s1 σ H1 _ I1 q1) fun vl s2 ⟨o, H2, I2, pl, good, a, xs, ex, q⟩ => ?_))
  subst ex
  obtain rfl : v = .ref a := rx
  refine thn (po_none.run pins s2 σ H2 (fun o' H' => o' = none ∧ H' = H2) I2 ⟨rfl, rfl⟩) fun vu s3 ⟨_, H3, I3, pu, e1, e2⟩ => ?_
  subst e1 e2
  refine thn (hst.run pins s3 σ H3 (fun o' H' => o' = some z ∧ H' = H3) I3 ⟨rfl, rfl⟩) fun vs s4 ⟨_, H4, I4, pt, e1, e2⟩ => ?_
  subst e1 e2
  have J : L2.Inv X pins σ H4 { s4 with heap := s4.heap.push { cls := .type "slice", data := .fields #[vl, vu, vs] } } := I4.kept (t' := s4.toks) fun _ _ => Heap.get?_push_of_some _
  have cell := Heap.IsSliceOf.new s4.heap vl vu vs
  rcases q with ⟨sq, q⟩ | ⟨sq, q⟩
  · obtain ⟨its, rv, pl', lim⟩ := J.list sq
    obtain ⟨ys, a', b', m', ry, small, pick, _⟩ := hp (o := o) good rv
    have few : its.toArray.size ≤ sizeLine := by rw [List.size_toArray, ← rv.length]; exact lim
    refine tail_any pl'.isList.typeIs PySem.slot_list_getitem.lookup (wpAny_getItem_list_slice pl'.isList cell pl pu pt (fun w => hz0 (Option.some.inj w)) ?_ few) (hs _ _)
    rw [pick]
    exact ⟨.ref _, _, J.laid (t' := s4.toks) (o := .lst (g xs o)) (fun _ _ => Heap.get?_push_of_some _) (Nat.le_refl _) ⟨by rw [ry.length]; exact Nat.le_trans small (by rw [← rv.length]; exact lim), ys, 0, ry, Heap.get?_push_size _ rfl⟩, rfl, q _ J.fresh⟩
  · obtain ⟨its, rv, pt', lim⟩ := J.tuple sq
    obtain ⟨ys, a', b', m', ry, small, _, adj, plc, pick⟩ := hp (o := o) good rv
    have some_ : ys.length ≤ sizeLine := Nat.le_trans small (by rw [← rv.length]; exact lim)
    refine tail_any pt'.typeIs slot_tuple_getitem.lookup (tuple_picked pt' cell (bounds_of cell pl pu pt hz0 (by rw [List.size_toArray]; exact adj) plc) hz1 pick some_ ?_) (hs _ _)
    exact newT_end J ry (by rw [ry.length]; exact some_) q
theorem pe_revR {bx : Bool} (hK : X.K = Φ.K) (he : PE X e (tR Φ W f)) : PE X (.Subscript e (.Slice none none (some (.UnaryOp .USub (.Constant (.int 1) k p1) p2)) p3) pos) (tR Φ W fun ρ S => (f ρ S).bind fun v S1 => revV bx v S1) := by
  have minus : PO X (some (.UnaryOp .USub (.Constant (.int 1) k p1) p2)) (fun _ H Q => Q (some (-1)) H) := ⟨fun pins s σ H Q I q => (po_some (pe_un un_neg pe_int)).run pins s σ H Q I ⟨1, rfl, -1, rfl, q⟩⟩
  refine PE.of (pe_stepF (z := -1) (g := fun xs _ => xs.reverse) (ok := fun o => o = none) he po_none minus (by decide) (by decide) (fun _ _ => by with_unfolding_all rfl) fun {xs its o} none_ rv => ?_) fun σ H Q ⟨m, ρ, S, s, E, h⟩ => ?_
  · subst none_
    refine ⟨its.reverse, (its.length : Int) - 1, -1, its.length, rv.reverse, Nat.le_of_eq List.length_reverse, PySem.W.krv_pick _, rev_bounds _, rev_places _, ?_⟩
    have e := pick_rev its.toArray
    rw [List.size_toArray] at e
    exact e
  refine chain s E h fun p S1 m1 H1 x e1 s1 E1 r1 h1 => ?_
  have lists : ∀ {p : PV} {l : List PV} {a : Addr} {xs : List V}, x = .ref a → SqL Φ.K H1 a xs → RelPs Φ m1 H1 l xs → PostE Φ W m1 H1 σ (mk bx l.reverse S1) Q → (none : Option Int) = none ∧ ∃ a xs, x = .ref a ∧ ((SqL X.K H1 a xs ∧ ∀ p, H1 p = none → Q (.ref p) (upd H1 p (.lst xs.reverse))) ∨ (SqT X.K H1 a xs ∧ NewT H1 xs.reverse Q)) := fun {p l a xs} ex hs r hq =>
    ⟨rfl, a, xs, ex, .inl ⟨by rw [hK]; exact hs, fun q hn => (mk_ok s1 r.reverse hq hn).2⟩⟩
  cases p with
  | tup l =>
    have h1 : PostE Φ W m1 H1 σ (mkT l.reverse S1) Q := h1
    simp only [RelP] at r1
    obtain ⟨a, xs, rfl, h2, r⟩ := r1
    exact ⟨rfl, a, xs, rfl, .inr ⟨by rw [hK]; exact h2.sq, mkT_ok s1 r.reverse h1⟩⟩
  | lst l =>
    simp only [RelP] at r1
    obtain ⟨a, xs, ex, h2, r⟩ := r1
    exact lists (p := .lst l) ex h2.sq r h1
  | klst l =>
    simp only [RelP] at r1
    obtain ⟨a, xs, ex, h2, r⟩ := r1
    exact lists (p := .klst l) ex h2.sq r h1
  | box n =>
    have h1 : PostE Φ W m1 H1 σ (withO (seqOf S1 (.box n)) fun l => mk bx l.reverse S1) Q := h1
    obtain ⟨l, el, h1⟩ := withO_ok h1
    obtain ⟨a, xs, ex, h2, r⟩ := lst_ok s1 r1 (l := l) el
    exact lists (p := .box n) ex (SqL.of h2) r h1
  | _ => exact False.elim h1
end
end Rn
set_option maxHeartbeats 1000007
/-! The runner is right: x[a::k]. -/
namespace Rn
open L2 PySem PyProof.Rows PySem.Spec

/-- how many places from lo on, by steps of k, lie ahead of n -/
def stepsN (n k lo : Nat) : Nat := if lo < n then (n - lo - 1) / k + 1 else 0
theorem stepsN_succ {n k lo : Nat} (hk : 1 ≤ k) (h : lo < n) : stepsN n k lo = stepsN n k (lo + k) + 1 := by
  unfold stepsN
  rw [if_pos h]
  by_cases h2 : lo + k < n
  · rw [if_pos h2]
    have e : n - lo - 1 = (n - (lo + k) - 1) + k := by omega
    rw [e, Nat.add_div_right _ (by omega)]
  · rw [if_neg h2, Nat.div_eq_of_lt (by omega)]
theorem range_fm {α : Type} (g : Nat → Option α) (n : Nat) : (List.range (n + 1)).filterMap g = (match g 0 with | some x => [x] | none => []) ++ (List.range n).filterMap fun j => g (j + 1) := by
  rw [List.range_succ_eq_map, List.filterMap_cons, List.filterMap_map]
  cases g 0 <;> rfl
/-- every k-th of xs from lo on -/
def pickN {α : Type} (xs : List α) (k lo : Nat) : List α := (List.range (stepsN xs.length k lo)).filterMap fun j => xs[lo + j * k]?
theorem pickN_nil {α : Type} {xs : List α} {k lo : Nat} (h : xs.length ≤ lo) : pickN xs k lo = [] := by
  unfold pickN stepsN
  rw [if_neg (by omega)]
  rfl
theorem pickN_cons {α : Type} {xs : List α} {k lo : Nat} (hk : 1 ≤ k) (h : lo < xs.length) : pickN xs k lo = xs[lo] :: pickN xs k (lo + k) := by
  unfold pickN
  rw [stepsN_succ hk h, range_fm]
  have e0 : xs[lo + 0 * k]? = some xs[lo] := by rw [Nat.zero_mul, Nat.add_zero]; exact List.getElem?_eq_getElem h
  rw [e0]
  show xs[lo] :: _ = _
  congr 1
  refine fm_congr _ fun j _ => ?_
  congr 1
  rw [Nat.succ_mul]
  omega
theorem every_eq {k : Nat} (hk : 1 ≤ k) : ∀ (f : Nat) (xs : List PV) (lo : Nat), xs.length ≤ lo + f → every k f (xs.drop lo) = pickN xs k lo
  | 0, xs, lo, h => by
    rw [pickN_nil (by omega)]
    rfl
  | f + 1, xs, lo, h => by
    by_cases hl : lo < xs.length
    · rw [pickN_cons hk hl, List.drop_eq_getElem_cons hl]
      show xs[lo] :: every k f ((xs.drop (lo + 1)).drop (k - 1)) = _
      rw [List.drop_drop, show lo + 1 + (k - 1) = lo + k by omega, every_eq hk f xs (lo + k) (by omega)]
    · rw [pickN_nil (by omega), List.drop_eq_nil_of_le (by omega)]
      rfl
theorem pickN_rel {Φ : Fm} {m : Mp} {H : Hp} {k : Nat} (hk : 1 ≤ k) : ∀ (f : Nat) {ps : List PV} {vs : List V} (lo : Nat), ps.length ≤ lo + f → RelPs Φ m H ps vs → RelPs Φ m H (pickN ps k lo) (pickN vs k lo)
  | 0, ps, vs, lo, h, r => by
    rw [pickN_nil (by omega), pickN_nil (by rw [← r.length]; omega)]
    exact RelPs.nil
  | f + 1, ps, vs, lo, h, r => by
    have hl := r.length
    by_cases hlt : lo < ps.length
    · rw [pickN_cons hk hlt, pickN_cons hk (by omega : lo < vs.length)]
      obtain ⟨v, h1, h2⟩ := r.get (List.getElem?_eq_getElem hlt)
      have e : vs[lo]'(by omega) = v := (List.getElem?_eq_some_iff.mp h1).2
      rw [e]
      exact RelPs.cons h2 (pickN_rel hk f (lo + k) (by omega) r)
    · rw [pickN_nil (by omega), pickN_nil (by omega)]
      exact RelPs.nil
theorem pickN_vals {k : Nat} (hk : 1 ≤ k) : ∀ (f : Nat) {vs : List V} {us : List Value} (lo : Nat), vs.length ≤ lo + f → Vals vs us → Vals (pickN vs k lo) (pickN us k lo)
  | 0, vs, us, lo, h, r => by
    rw [pickN_nil (by omega), pickN_nil (by rw [← r.length]; omega)]
    exact .nil
  | f + 1, vs, us, lo, h, r => by
    have hl := r.length
    by_cases hlt : lo < vs.length
    · rw [pickN_cons hk hlt, pickN_cons hk (by omega : lo < us.length)]
      obtain ⟨u, h1, h2⟩ := r.get (List.getElem?_eq_getElem hlt)
      have e : us[lo]'(by omega) = u := (List.getElem?_eq_some_iff.mp h1).2
      rw [e]
      exact .cons h2 (pickN_vals hk f (lo + k) (by omega) r)
    · rw [pickN_nil (by omega), pickN_nil (by omega)]
      exact .nil
theorem pickN_len {α : Type} (xs : List α) (k lo : Nat) (hk : 1 ≤ k) : ∀ f, xs.length ≤ lo + f → (pickN xs k lo).length ≤ xs.length - lo := by
  intro f
  induction f generalizing lo with
  | zero =>
    intro h
    rw [pickN_nil (by omega)]
    exact Nat.zero_le _
  | succ f ih =>
    intro h
    by_cases hl : lo < xs.length
    · rw [pickN_cons hk hl, List.length_cons]
      have := ih (lo + k) (by omega)
      omega
    · rw [pickN_nil (by omega)]
      exact Nat.zero_le _
theorem range_step (a n k : Nat) (hk : 1 ≤ k) : sliceRange (a : Int) (n : Int) (k : Int) = (List.range (stepsN n k a)).map fun j => a + j * k := by
  unfold sliceRange stepsN
  have hp : ((k : Int) > 0) := by omega
  have fn : ∀ j : Nat, ((a : Int) + (k : Int) * (j : Int)).toNat = a + j * k := fun j => by
    rw [← Int.natCast_mul, ← Int.natCast_add, Int.toNat_natCast, Nat.mul_comm]
  simp only [hp, if_true, fn]
  by_cases h : a < n
  · have h' : (a : Int) < (n : Int) := by omega
    rw [if_pos h', if_pos h]
    have e : ((n : Int) - (a : Int) + (k : Int) - 1) = (((n - a - 1) + k : Nat) : Int) := by omega
    rw [e, ← Int.natCast_ediv, Int.toNat_natCast, Nat.add_div_right _ (by omega)]
  · have h' : ¬ (a : Int) < (n : Int) := by omega
    rw [if_neg h', if_neg h]
    rfl
/-- what the list's slice picks -/
theorem pick_step (its : List Value) (lo : Option Int) (k : Nat) (hk : 1 ≤ k) : slicePick its.toArray lo none (some (k : Int)) = (pickN its k (HT.sIx its.length 0 lo)).toArray := by
  unfold slicePick
  have hp : ((k : Int) > 0) := by omega
  have b : sliceBounds lo none (some (k : Int)) its.toArray.size = (((HT.sIx its.length 0 lo : Nat) : Int), (its.length : Int), (k : Int)) := by
    unfold sliceBounds
    simp only [Option.getD_some, hp, if_true, List.size_toArray]
    cases lo with
    | none => rfl
    | some i =>
      refine Prod.ext ?_ rfl
      show _ = ((HT.sIx its.length 0 (some i) : Nat) : Int)
      rw [← HT.clip_eq]
      first
        | rfl
        | (dsimp only; split <;> omega)
  rw [b]
  have hr : sliceRange ((HT.sIx its.length 0 lo : Nat) : Int) (its.length : Int) (k : Int) = (List.range (stepsN its.length k (HT.sIx its.length 0 lo))).map fun j => HT.sIx its.length 0 lo + j * k := range_step _ _ _ hk
  show ((sliceRange ((HT.sIx its.length 0 lo : Nat) : Int) (its.length : Int) (k : Int)).filterMap (its.toArray[·]?)).toArray = _
  rw [hr, List.filterMap_map]
  unfold pickN
  congr 1
  refine fm_congr _ fun j _ => ?_
  show its.toArray[HT.sIx its.length 0 lo + j * k]? = _
  simp

theorem step_bounds (lo : Option Int) (k n : Nat) (hk : 1 ≤ k) : Builtin.Slice.sliceAdjust lo none (k : Int) (n : Int) = (((HT.sIx n 0 lo : Nat) : Int), (n : Int)) := by
  have pos : ¬ (k : Int) < 0 := by omega
  simp only [Builtin.Slice.sliceAdjust, pos, if_false]
  cases lo with
  | none => rfl
  | some v => exact congrArg (fun z => (z, (n : Int))) (HT.clip_eq v n 0)
theorem step_places (a k n : Nat) (hk : 1 ≤ k) : Builtin.Slice.slicePlaces (a : Int) (n : Int) (k : Int) = stepsN n k a := by
  have pos : ((k : Int) > 0) := by omega
  simp only [Builtin.Slice.slicePlaces, stepsN, pos, if_true]
  by_cases h : a < n
  · have h' : (a : Int) < (n : Int) := by omega
    have e : ((n : Int) - (a : Int) - 1) = ((n - a - 1 : Nat) : Int) := by omega
    rw [if_pos h', if_pos h, e, ← Int.natCast_ediv]
    generalize (n - a - 1) / k = q
    omega
  · have h' : ¬ (a : Int) < (n : Int) := by omega
    rw [if_neg h', if_neg h]
    rfl
theorem step_pick (its : List Value) (a k : Nat) : ((List.range (stepsN its.length k a)).filterMap fun (j : Nat) => its.toArray[((a : Int) + (j : Int) * (k : Int)).toNat]?).toArray = (pickN its k a).toArray := by
  refine congrArg List.toArray (fm_congr _ fun j _ => ?_)
  have e : ((a : Int) + (j : Int) * (k : Int)).toNat = a + j * k := by rw [← Int.natCast_mul, ← Int.natCast_add, Int.toNat_natCast]
  rw [e]
  simp
section
variable {X : Cx} {Φ : Fm} {W : WX} {m m1 m0 : Mp} {H H1 : Hp} {S S0 S1 : Sto} {ρ : Env} {σ : L2.St} {p1 p2 p3 pos : Pos} {f g : Run} {e e2 : Expr} {lo : Option Expr} {k j : Nat}
theorem every_cut {k : Nat} (hk : 1 ≤ k) (l : List PV) (lo : Option Int) : every k l.length (cut l lo none) = pickN l k (HT.sIx l.length 0 lo) := by
  have hc : cut l lo none = l.drop (HT.sIx l.length 0 lo) := by
    rw [cut_eq]
    show List.take (l.length - HT.sIx l.length 0 lo) (l.drop (HT.sIx l.length 0 lo)) = _
    refine List.take_of_length_le ?_
    rw [List.length_drop]
    exact Nat.le_refl _
  rw [hc]
  exact every_eq hk l.length l _ (by omega)
theorem pe_evrR {bx : Bool} (hK : X.K = Φ.K) (hk : 2 ≤ k) (he : PE X e (tR Φ W f)) (hl : PO X lo (tRO Φ W g)) (hg : ∀ ρ S p S', g ρ S = .ok p S' → ∃ o, oint p = some o) :
    PE X (.Subscript e (.Slice lo none (some (.Constant (.int k) j p1)) p3) pos) (tR Φ W fun ρ S => (f ρ S).bind fun v S1 => (g ρ S1).bind fun l S2 => evrV bx v l k S2) := by
  have part : PO X (some (.Constant (.int (k : Int)) j p1)) (fun _ H Q => Q (some (k : Int)) H) := ⟨fun pins s σ H Q I q => (po_some pe_int).run pins s σ H Q I ⟨k, rfl, q⟩⟩
  refine PE.of (pe_stepF (z := (k : Int)) (g := fun xs o => pickN xs k (HT.sIx xs.length 0 o)) (ok := fun _ => True) he hl part (by omega) (by omega) (fun _ _ => by with_unfolding_all rfl) fun {xs its o} _ rv => ?_) fun σ H Q ⟨m, ρ, S, s, E, h⟩ => ?_
  · have few := pickN_len its k (HT.sIx its.length 0 o) (by omega) its.length (by omega)
    refine ⟨pickN its k (HT.sIx its.length 0 o), _, _, _, ?_, by omega, pick_step _ _ _ (by omega), step_bounds _ _ _ (by omega), step_places _ _ _ (by omega), step_pick _ _ _⟩
    show Vals (pickN xs k (HT.sIx xs.length 0 o)) _
    rw [rv.length]
    exact pickN_vals (by omega) xs.length _ (by omega) rv
  refine chain s E h fun p S1 m1 H1 x e1 s1 E1 r1 h1 => ?_
  show tRO Φ W g σ H1 fun lo H2 => _
  refine ⟨m1, ρ, S1, s1, E1, ?_⟩
  cases hr : g ρ S1 with
  | no =>
    rw [hr] at h1
    exact h1
  | ex c S2 =>
    rw [hr] at h1
    exact h1
  | ok l S2 =>
    rw [hr] at h1
    obtain ⟨o, eo⟩ := hg ρ S1 l S2 hr
    refine ⟨o, eo, fun m2 H2 e2 s2 => ?_⟩
    have h2 : PostE Φ W m2 H2 σ (evrV bx p l k S2) Q := PostE.ext e2 h1
    unfold evrV at h2
    rw [eo] at h2
    have hb : Nat.blt 1 k = true := Nat.ble_eq_true_of_le hk
    simp only [withO, hb, if_true] at h2
    have r2 := r1.ext e2
    have rel : ∀ {z : List PV} {xs : List V}, RelPs Φ m2 H2 z xs → RelPs Φ m2 H2 (every k z.length (cut z o none)) (pickN xs k (HT.sIx xs.length 0 o)) := fun {z xs} r => by
      rw [every_cut (by omega), r.length]
      exact pickN_rel (by omega) z.length _ (by omega) r
    have lists : ∀ {z : List PV} {a : Addr} {xs : List V}, x = .ref a → SqL Φ.K H2 a xs → RelPs Φ m2 H2 z xs → PostE Φ W m2 H2 σ (mk bx (every k z.length (cut z o none)) S2) Q → True ∧ ∃ a xs, x = .ref a ∧ ((SqL X.K H2 a xs ∧ ∀ p, H2 p = none → Q (.ref p) (upd H2 p (.lst (pickN xs k (HT.sIx xs.length 0 o))))) ∨ (SqT X.K H2 a xs ∧ NewT H2 (pickN xs k (HT.sIx xs.length 0 o)) Q)) := fun {z a xs} ex hs r hq =>
      ⟨trivial, a, xs, ex, .inl ⟨by rw [hK]; exact hs, fun q hn => (mk_ok s2 (rel r) hq hn).2⟩⟩
    cases p with
    | tup z =>
      simp only [RelP] at r2
      obtain ⟨a, xs, rfl, h3, r⟩ := r2
      exact ⟨trivial, a, xs, rfl, .inr ⟨by rw [hK]; exact h3.sq, mkT_ok s2 (rel r) h2⟩⟩
    | lst z =>
      simp only [RelP] at r2
      obtain ⟨a, xs, ex, h3, r⟩ := r2
      exact lists ex h3.sq r h2
    | klst z =>
      simp only [RelP] at r2
      obtain ⟨a, xs, ex, h3, r⟩ := r2
      exact lists ex h3.sq r h2
    | box n =>
      have h2 : PostE Φ W m2 H2 σ (withO (seqOf S2 (.box n)) fun z => mk bx (every k z.length (cut z o none)) S2) Q := h2
      obtain ⟨z, el, h2⟩ := withO_ok h2
      obtain ⟨a, xs, ex, h3, r⟩ := lst_ok s2 r2 (l := z) el
      exact lists ex (SqL.of h3) r h2
    | _ => exact False.elim h2
end
end Rn
set_option maxHeartbeats 2000007
/-! Calls by names alone: how a def without defaults binds them. -/
namespace Rn
open L2 PySem PyProof.Rows PySem.Spec
abbrev KvL := List (Str × Value)
theorem kw_loop {f : Str × Value → KvL × KvL → Sem (ForInStep (KvL × KvL))} : ∀ (rest done : KvL), (∀ p ∈ rest, ∀ d : KvL, (d.lookup p.1).isSome = false → f p (d, []) = pure (.yield (d ++ [(p.1, p.2)], []))) → ((done ++ rest).map (·.1)).Nodup → forIn rest (done, ([] : KvL)) f = pure (done ++ rest, [])
  | [], done, _, _ => by
    rw [List.append_nil]
    rfl
  | p :: rest, done, h, nd => by
    have fresh : (done.lookup p.1).isSome = false := by
      have q : ∀ {l : KvL} {x : Str}, x ∉ l.map (·.1) → l.lookup x = none := fun {l} => by
        induction l with
        | nil => intro x _; rfl
        | cons a r ih =>
          intro x hx
          obtain ⟨k, v⟩ := a
          have e : (x == k) = false := by
            rw [beq_eq_false_iff_ne]
            exact fun z => hx (by rw [z]; exact List.mem_cons_self)
          show (match x == k with | true => some v | false => r.lookup x) = none
          rw [e]
          exact ih fun z => hx (List.mem_cons_of_mem _ z)
      rw [q fun z => ?_]
      · rfl
      · rw [List.map_append, List.nodup_append] at nd
        exact nd.2.2 _ z _ (by rw [List.map_cons]; exact List.mem_cons_self) rfl
    rw [List.forIn_cons, h p List.mem_cons_self done fresh, pure_bind]
    show forIn rest (done ++ [(p.1, p.2)], ([] : KvL)) f = _
    rw [kw_loop rest (done ++ [(p.1, p.2)]) (fun q hq => h q (List.mem_cons_of_mem _ hq)) (by simpa [List.append_assoc] using nd)]
    simp [List.append_assoc]
theorem lookup_at : ∀ {ks : List Str} {us : List Value} {i : Nat} {x : Str} {u : Value}, ks.Nodup → ks[i]? = some x → us[i]? = some u → (ks.zip us).lookup x = some u
  | [], _, i, x, u, _, h, _ => by simp at h
  | k :: ks, [], i, x, u, _, _, h => by simp at h
  | k :: ks, v :: us, 0, x, u, nd, h1, h2 => by
    have e1 : k = x := by simpa using h1
    have e2 : v = u := by simpa using h2
    subst e1
    subst e2
    show (match k == k with | true => some v | false => (ks.zip us).lookup k) = some v
    rw [beq_self_eq_true]
  | k :: ks, v :: us, i + 1, x, u, nd, h1, h2 => by
    have ⟨n1, n2⟩ := List.nodup_cons.mp nd
    have h1 : ks[i]? = some x := by simpa using h1
    have h2 : us[i]? = some u := by simpa using h2
    have e : (x == k) = false := by
      rw [beq_eq_false_iff_ne]
      exact fun z => n1 (by rw [← z]; exact List.mem_of_getElem? h1)
    show (match x == k with | true => some v | false => (ks.zip us).lookup x) = some u
    rw [e]
    exact lookup_at n2 h1 h2
theorem perm_lookup {ks : List Str} {us : List Value} (nd : ks.Nodup) : ∀ {ix : List Nat} {ps : List Str} {ws : List Value}, permV ix ks = some ps → permV ix us = some ws → ps.length = ws.length ∧ (∀ p ∈ ps, ((ks.zip us).lookup p).isNone = false) ∧ (ps.filterMap fun n => ((ks.zip us).lookup n).map (n, ·)) = ps.zip ws
  | [], ps, ws, h1, h2 => by
    cases h1
    cases h2
    exact ⟨rfl, fun p hp => (nomatch hp), rfl⟩
  | i :: ix, ps, ws, h1, h2 => by
    simp only [permV] at h1 h2
    cases a1 : ks[i]? with
    | none =>
      rw [a1] at h1
      cases h1
    | some x =>
      cases a2 : permV ix ks with
      | none =>
        rw [a1, a2] at h1
        cases h1
      | some pr =>
        rw [a1, a2] at h1
        cases h1
        cases b1 : us[i]? with
        | none =>
          rw [b1] at h2
          cases h2
        | some u =>
          cases b2 : permV ix us with
          | none =>
            rw [b1, b2] at h2
            cases h2
          | some wr =>
            rw [b1, b2] at h2
            cases h2
            obtain ⟨q1, q2, q3⟩ := perm_lookup nd a2 b2
            have l := lookup_at nd a1 b1
            refine ⟨by rw [List.length_cons, List.length_cons, q1], fun p hp => ?_, ?_⟩
            · rcases List.mem_cons.mp hp with z | z
              · rw [z, l]
                rfl
              · exact q2 p z
            · rw [List.filterMap_cons, l]
              show (x, u) :: _ = (x, u) :: pr.zip wr
              rw [q3]
theorem bind_kw {x qual : Str} {as : List Arg} {body : List Stmt} {scope : Scope} {kV doc pm : Value} {an : Option Addr} {cdv ct : Value} {us ws : List Value} {ks : List Str} {ix : List Nat} (nd : ks.Nodup) (hm : ∀ k ∈ ks, (as.map (·.arg)).contains k = true)
    (hp : permV ix ks = some (as.map (·.arg))) (hw : permV ix us = some ws) (hl : us.length = ks.length) :
    bindArgs (PySem.W.fnOf x qual ⟨[], as, none, [], [], none, []⟩ body scope .none kV doc pm an cdv ct) ⟨[], ks.zip us⟩ = pure ((as.map (·.arg)).zip ws) := by
  obtain ⟨q1, q2, q3⟩ := perm_lookup nd hp hw
  have h1 : seqItems? Value.none = pure none := rfl
  have h3 : ((as.map (·.arg)).filter fun n => ((ks.zip us).lookup n).isNone) = [] := List.filter_eq_nil_iff.mpr fun x hx => by
    rw [q2 x hx]
    exact Bool.false_ne_true
  have kn : ((([] : KvL) ++ ks.zip us).map (·.1)).Nodup := by
    rw [List.nil_append, List.map_fst_zip (by omega)]
    exact nd
  unfold bindArgs PySem.W.fnOf
  simp only [List.map_nil, List.nil_append, List.append_nil, pure_bind, List.zip_nil_right, List.length_nil, Option.isSome_none, Bool.or_false]
  rw [kw_loop (ks.zip us) [] (fun p hp d hd => ?_) kn]
  · have h2 : ¬ 0 > (as.map (·.arg)).length := by omega
    simp only [pure_bind, h1, h2, decide_false, Bool.false_and, Option.getD_none, List.drop_nil, List.length_nil, Nat.sub_zero, List.take_length, List.nil_append, h3, List.drop_length, List.zip_nil_left, List.forIn_nil, List.isEmpty_nil, Bool.not_true, if_false, Bool.false_eq_true, q3, List.map_nil, List.append_nil, List.filterMap_nil]
  · have c : ((as.map (·.arg)).contains p.1 || ([] : List Str).contains p.1) = true := by
      rw [hm p.1 (by
        have z := List.of_mem_zip (show (p.1, p.2) ∈ ks.zip us from hp)
        exact z.1)]
      rfl
    rw [if_pos c]
    show (if (d.lookup p.1).isSome = true then _ else _) = _
    rw [hd, if_neg Bool.false_ne_true]
end Rn
set_option maxHeartbeats 1000007
/-! The look at a def: whether its tree is what its text says. Plain functions that decide. -/
namespace Rn
open L2 PySem PyProof.Rows PySem.Spec

/-- the text's names, by their numbers: defs, constants, classes -/
structure Tx where
  fn : List Str
  cn : List Str
  cl : List Str
  c0 : List Nat
  pm : List (List Str)
/-- names of arguments against names of parameters -/
def kwB (ps ks : List Str) (ix : List Nat) : Bool := decide ks.Nodup && ks.all (fun k => ps.contains k) && decide (permV ix ks = some ps)
/-- a block of code: its slots' names, its scope, the scope of a comprehension's block, whether it stands in no except suite, whether it is a def's own -/
structure Bk where
  N : List Str
  sc : Scope
  own : Option Scope
  calm : Bool
  top : Bool
  exc : Option Nat

def atB (l : List Str) (i : Nat) (x : Str) : Bool := match l[i]? with
  | some y => decide (y = x)
  | none => false
theorem atB_ok {l : List Str} {i : Nat} {x : Str} (h : atB l i x = true) : l[i]? = some x := by
  unfold atB at h
  split at h
  · rename_i y e
    rw [e, of_decide_eq_true h]
  · cases h
def isKd (sc : Scope) (x : Str) (k : NameKind) : Bool := decide (sc.names.lookup x = some k)
def visB (sc : Scope) (x : Str) : Bool := isKd sc x .local || isKd sc x .cell || isKd sc x .free
def locB (sc : Scope) (x : Str) : Bool := isKd sc x .local || isKd sc x .cell
def dbgB (x : Str) : Bool := !(x == ("__debug__" : Str))
def cdB (x : Str) : Bool := !(x == ("__classdict__" : Str))
def glB (sc : Scope) (x : Str) : Bool := isKd sc x .globalImplicit
theorem isKd_ok {sc : Scope} {x : Str} {k : NameKind} (h : isKd sc x k = true) : sc.names.lookup x = some k := of_decide_eq_true h
theorem or2 {a b : Bool} (h : (a || b) = true) : a = true ∨ b = true := Bool.or_eq_true_iff.mp h
theorem visB_ok {sc : Scope} {x : Str} (h : visB sc x = true) : Vis sc x := by
  rcases or2 h with h | h
  · rcases or2 h with h | h
    · exact .inl (isKd_ok h)
    · exact .inr (.inl (isKd_ok h))
  · exact .inr (.inr (isKd_ok h))
theorem locB_ok {sc : Scope} {x : Str} (h : locB sc x = true) : Loc sc x := by
  rcases or2 h with h | h
  · exact .inl (isKd_ok h)
  · exact .inr (isKd_ok h)
theorem not_ok {b : Bool} (h : (!b) = true) : b = false := by
  cases b with
  | true => cases h
  | false => rfl

/-- a comprehension's block -/
def Bk.blk (b : Bk) (scope : Scope) : Bk := ⟨b.N, relS scope b.sc, some scope, b.calm, false, none⟩
def Bk.suite (b : Bk) (c : Option Nat) : Bk := { b with calm := false, top := false, exc := c }
def fnB (b : Bk) (x : Str) : Bool := match b.own with
  | none => true
  | some s => s.names.lookup x == some .cell
def ownP (N : List Str) (own : List Nat) : List (Str × Nat) := own.map fun i => (N.getD i "", i)
theorem ownP_snd (N : List Str) : ∀ own : List Nat, (ownP N own).map (·.2) = own
  | [] => rfl
  | i :: r => by
    show i :: (ownP N r).map (·.2) = i :: r
    rw [ownP_snd N r]
def memB (x : Str) : List Str → Bool
  | [] => false
  | y :: r => decide (x = y) || memB x r
theorem memB_ok {x : Str} : ∀ {l : List Str}, memB x l = true → x ∈ l
  | [], h => by cases h
  | y :: r, h => by
    rcases or2 h with h | h
    · rw [of_decide_eq_true h]
      exact List.mem_cons_self
    · exact List.mem_cons_of_mem _ (memB_ok h)
theorem memB_no {x : Str} : ∀ {l : List Str}, memB x l = false → x ∉ l
  | [], _, z => nomatch z
  | y :: r, h, z => by
    have h : (decide (x = y) || memB x r) = false := h
    rw [Bool.or_eq_false_iff] at h
    have zq149 := List.mem_cons.mp z
    rcases zq149 with z | z
    · exact of_decide_eq_false h.1 z
    · exact memB_no h.2 z
def blkB (N : List Str) (sc scope : Scope) (own : List Nat) : Bool :=
  decide (scope.kind = .function) && scope.names.all (fun y => isKd scope y.1 y.2) && own.all (fun i => Nat.blt i N.length) &&
    scope.names.all (fun y => match y.2 with
      | .free => isKd sc y.1 .cell || isKd sc y.1 .free
      | .local => memB y.1 ((ownP N own).map (·.1)) || !memB y.1 N
      | .cell => memB y.1 ((ownP N own).map (·.1)) || !memB y.1 N
      | _ => true)
theorem all_ok {α : Type} {p : α → Bool} {l : List α} (h : l.all p = true) : ∀ x ∈ l, p x = true := List.all_eq_true.mp h
theorem blkB_ok {N : List Str} {sc scope : Scope} {own : List Nat} (h : blkB N sc scope own = true) : BlkOk N sc scope (ownP N own) := by
  obtain ⟨h, h4⟩ := and2 h
  obtain ⟨h, h3⟩ := and2 h
  obtain ⟨h1, h2⟩ := and2 h
  have h4 := all_ok h4
  have h3 := all_ok h3
  refine ⟨of_decide_eq_true h1, fun y hy => isKd_ok (all_ok h2 y hy), fun p hp => ?_, fun y hy e => ?_, fun y hy e => ?_⟩
  · obtain ⟨i, hi, rfl⟩ := List.mem_map.mp hp
    have q := blt_true (h3 i hi)
    show N[i]? = some (N.getD i "")
    rw [List.getD_eq_getElem?_getD, List.getElem?_eq_getElem q]
    rfl
  · have q := h4 y hy
    rw [e] at q
    rcases or2 q with q | q
    · exact .inl (isKd_ok q)
    · exact .inr (isKd_ok q)
  · have key : (memB y.1 ((ownP N own).map (·.1)) || !memB y.1 N) = true := by
      have q := h4 y hy
      rcases e with e | e <;> rw [e] at q <;> exact q
    rcases or2 key with q | q
    · exact .inl (memB_ok q)
    · exact .inr (memB_no (not_ok q))

/-! ### places where stores change their order -/
def isComp : Expr → Bool
  | .ListComp _ _ _ _ => true
  | .SetComp _ _ _ _ => true
  | .DictComp _ _ _ _ _ => true
  | _ => false
def isFun (sc : Scope) : Bool := (if sc.kind.isAnnotationScope then ScopeKind.function else sc.kind) == .function
def swB (sc : Scope) (tg x : Expr) : Bool := match tg, x with
  | .Name t p, .ListComp _ _ s vp => isFun sc && sc.names.lookup t == some .local && p.line == vp.line && !(s.names.any fun (n, k) => n == t && (k == .local || k == .cell))
  | .Name _ _, x => isComp x
  | _, _ => false
theorem swaps_none {x : Expr} {l : Nat} {env : PySem.Env} {t : Option Expr} (h : isComp x = false) : swapsWith x t l env = pure false := by
  cases x <;> first | rfl | (simp [isComp] at h)
theorem swB_no {tg x : Expr} {l : Nat} {env : PySem.Env} (h : swB env.scope tg x = false) : swapsWithSole [tg] x l env = pure false := by
  cases hc : isComp x with
  | false => exact swaps_none hc
  | true =>
    cases tg with
    | Name t p =>
      cases x with
      | ListComp e g s vp =>
        show (pure _ : Sem Bool) = pure false
        exact congrArg _ h
      | _ => first | (simp [isComp] at hc; done) | (simp [swB, isComp] at h)
    | _ => cases x <;> first | rfl | (simp [isComp] at hc)
theorem swB_yes {t : Str} {p pos : Pos} {e : Expr} {g : List Comprehension} {s : Scope} {l : Nat} {env : PySem.Env} (h : swB env.scope (.Name t p) (.ListComp e g s pos) = true) : swapsWith (.ListComp e g s pos) (some (.Name t p)) l env = pure true ∧ env.scope.names.lookup t = some .local := by
  refine ⟨?_, ?_⟩
  · show (pure _ : Sem Bool) = pure true
    exact congrArg _ h
  · obtain ⟨h, _⟩ := and2 h
    obtain ⟨h, _⟩ := and2 h
    exact eq_of_beq (and2 h).2
def starred : Expr → Bool
  | .Starred _ _ => true
  | _ => false
/-- the names that a, b = x, y stores backwards, if it does; none: no word -/
def swp (sc : Scope) (tg x : Expr) : Option (Option (List Str)) := match tg, x with
  | .Tuple ts _ _, .Tuple vs _ _ =>
    if !(ts.length == 2 || ts.length == 3) || vs.length != ts.length || !isFun sc then some none
    else if vs.any starred then some none
    else
      let line :=
            (ts.head?.map (·.pos.line)).getD 0
      let ns := ts.filterMap fun
        | .Name id pos => if sc.names.lookup id == some .local && pos.line == line then some id else none
        | _ => none
      if ns.length != ts.length || ns.eraseDups.length != ns.length then some none
      else if vs.all (foldedForSure 8) then some none
      else if vs.all (constantsAlone 8) then none
      else some (some ns)
  | .List _ _, .Tuple _ _ _ => none
  | _, _ => some none
theorem starred_eq : starred = (fun | .Starred .. => true | _ => false : Expr → Bool) := by
  funext e
  cases e <;> rfl
theorem swp_ok {tg x : Expr} {env : PySem.Env} {r : Option (List Str)} (h : swp env.scope tg x = some r) : swappedStores [tg] x env = pure r := by
  cases tg with
  | Tuple ts k p =>
    cases x with
    | Tuple vs k2 p2 =>
      have h : (if !(ts.length == 2 || ts.length == 3) || vs.length != ts.length || env.blockKind != .function then some none
        else if vs.any starred then some none
        else if (ts.filterMap fun
            | .Name id pos => if env.kindOf id == some .local && pos.line == (ts.head?.map (·.pos.line)).getD 0 then some id else none
            | _ => none).length != ts.length || (ts.filterMap fun
            | .Name id pos => if env.kindOf id == some .local && pos.line == (ts.head?.map (·.pos.line)).getD 0 then some id else none
            | _ => none).eraseDups.length != (ts.filterMap fun
            | .Name id pos => if env.kindOf id == some .local && pos.line == (ts.head?.map (·.pos.line)).getD 0 then some id else none
            | _ => none).length then some none
        else if vs.all (foldedForSure 8) then some none
        else if vs.all (constantsAlone 8) then none
        else some (some (ts.filterMap fun
            | .Name id pos => if env.kindOf id == some .local && pos.line == (ts.head?.map (·.pos.line)).getD 0 then some id else none
            | _ => none))) = some r := h
      rw [starred_eq] at h
      show (if _ then _ else _ : Sem (Option (List Str))) = _
      split at h
      · rename_i c
        cases h
        exact if_pos c
      · rename_i c
        refine (if_neg c).trans ?_
        split at h
        · rename_i c
          cases h
          exact if_pos c
        · rename_i c
          refine (if_neg c).trans ?_
          split at h
          · rename_i c
            cases h
            exact if_pos c
          · rename_i c
            refine (if_neg c).trans ?_
            split at h
            · rename_i c
              cases h
              exact if_pos c
            · rename_i c
              refine (if_neg c).trans ?_
              split at h
              · cases h
              · rename_i c
                cases h
                exact if_neg c
    | _ =>
      cases h
      rfl
  | List es p =>
    cases x with
    | Tuple => cases h
    | _ =>
      cases h
      rfl
  | _ =>
    cases h
    rfl

/-! ### operators -/
def boB : Bo → Operator → Bool
  | .add, .Add => true
  | .sub, .Sub => true
  | .mul, .Mult => true
  | .fdiv, .FloorDiv => true
  | .mod, .Mod => true
  | .pow, .Pow => true
  | _, _ => false
theorem boB_ok {o : Bo} {op : Operator} (h : boB o op = true) : BoOk o op := by
  cases o <;> cases op <;> first | constructor | (simp [boB] at h)
def coB : Co → CmpOp → Bool
  | .eq, .Eq => true
  | .ne, .NotEq => true
  | .lt, .Lt => true
  | .le, .LtE => true
  | .gt, .Gt => true
  | .ge, .GtE => true
  | .is, .Is => true
  | .isn, .IsNot => true
  | .inn, .In => true
  | .nin, .NotIn => true
  | _, _ => false
theorem coB_ok {o : Co} {op : CmpOp} (h : coB o op = true) : CoOk o op := by
  cases o <;> cases op <;> first | constructor | (simp [coB] at h)
def tyB (t : String) : Bool := t == "int" || t == "bool" || t == "str" || t == "list" || t == "tuple"
def excT (t : String) : Bool := t == "ValueError" || t == "LookupError"
def bases : List String := ["int", "bool", "str", "list", "tuple", "len", "abs", "isinstance", "sum", "any", "all", "max", "min", "sorted", "range", "zip", "enumerate", "ValueError", "LookupError"]
/-- o.m: no call of super as o -/
def baseB : Expr → Bool
  | .Call (.Name x _) [] [] _ => x != ("super" : Str)
  | .Call _ _ _ _ => false
  | _ => true
theorem baseB_ok {o : Expr} (h : baseB o = true) (nm : Str) (env : PySem.Env) : attributeBase o nm env (eval o env) = eval o env := by
  unfold baseB at h
  split at h
  · exact abase_call h
  · cases h
  · rename_i no
    refine base_plain ?_ nm env
    cases o <;> first | rfl | exact absurd rfl (no _ _ _ _)

/-! ### targets -/
def chkG : Tg → Bool → Bk → List Expr → Bool
  | .nm i => fun l b es => match l, es with
    | false, [.Name x _] => atB b.N i x && locB b.sc x && (fnB b x || isKd b.sc x .local)
    | _, _ => false
  | .tup t => fun l b es => match l, es with
    | false, [.Tuple xs _ _] => b.calm && plainEs xs && (match tgLen t with
      | some n => Nat.beq n xs.length
      | none => false) && chkG t true b xs
    | _, _ => false
  | .nil => fun l b es => match l, es with
    | true, [] => true
    | _, _ => false
  | .cons h t => fun l b es => match l, es with
    | true, x :: xs => plainE x && chkG h false b [x] && chkG t true b xs
    | _, _ => false
def isTupT : Tg → Bool
  | .tup _ => true
  | _ => false

/-- how an expression stands: as a value, a test, what a loop goes over, a list of arguments, a part of a slice -/
inductive Md | e | t | i (tup : Bool) (tg : Expr) | a | o | k
def mdB (m : Md) (x : Expr) : Bool := match m with
  | .e => true
  | .t => plainT x
  | .i _ _ => true
  | _ => false
def isTE : Ex → Bool
  | .bl true => true
  | _ => false
theorem isTE_ok {x : Ex} (h : isTE x = true) : x = .bl true := by
  unfold isTE at h
  split at h
  · rfl
  · cases h
def isTupE : Expr → Bool
  | .Tuple _ _ _ => true
  | _ => false

section
variable (T : Tx)
def chk : Ex → Md → Bk → List Expr → Bool
  | .non => fun m b es => match es with
    | [.Constant .none k p] => mdB m (.Constant .none k p)
    | _ => false
  | .bl t => fun m b es => match es with
    | [.Constant (.bool u) k p] => mdB m (.Constant (.bool u) k p) && (t == u)
    | _ => false
  | .int i => fun m b es => match es with
    | [.Constant (.int j) k p] => mdB m (.Constant (.int j) k p) && decide (i = j)
    | _ => false
  | .str x => fun m b es => match es with
    | [.Constant (.str y) k p] => mdB m (.Constant (.str y) k p) && decide (x = y) && Nat.ble y.cps.size lim
    | _ => false
  | .gty t => fun m b es => match m, es with
    | .e, [.Name x _] => tyB t && decide (x = Str.ofString t) && glB b.sc x
    | _, _ => false
  | .var i => fun m b es => match es with
    | [.Name x p] => mdB m (.Name x p) && atB b.N i x && visB b.sc x && dbgB x && cdB x
    | _ => false
  | .gfn f => fun m b es => match m, es with
    | .e, [.Name x _] => atB T.fn f x && glB b.sc x && dbgB x
    | _, _ => false
  | .gcn g => fun m b es => match es with
    | [.Name x p] => mdB m (.Name x p) && atB T.cn g x && glB b.sc x && dbgB x
    | _ => false
  | .nil => fun m b es => match m, es with
    | .a, [] => true
    | .k, [] => true
    | _, _ => false
  | .cons h t => fun m b es => match m, es with
    | .a, x :: xs => plainE x && chk h .e b [x] && chk t .a b xs
    | .k, x :: xs => chk h .e b [x] && chk t .k b xs
    | _, _ => false
  | .tup es => fun m b l => match l with
    | [.Tuple xs k p] => mdB m (.Tuple xs k p) && chk es .a b xs
    | _ => false
  | .lst _ es => fun m b l => match l with
    | [.List xs p] => mdB m (.List xs p) && chk es .a b xs
    | _ => false
  | .bin o _ x y => fun m b l => match l with
    | [.BinOp u op v p] => mdB m (.BinOp u op v p) && boB o op && chk x .e b [u] && chk y .e b [v]
    | _ => false
  | .neg x => fun m b l => match l with
    | [.UnaryOp .USub u p] => mdB m (.UnaryOp .USub u p) && chk x .e b [u]
    | _ => false
  | .not x => fun m b l => match m, l with
    | .e, [.UnaryOp .Not u _] => chk x .e b [u]
    | .t, [.UnaryOp .Not u _] => chk x .t b [u]
    | _, _ => false
  | .and x y => fun m b l => match m, l with
    | .e, [.BoolOp .And (u :: v :: r) p] => chk x .e b [u] && (match r with
      | [] => chk y .e b [v]
      | w :: r => chk y .e b [.BoolOp .And (v :: w :: r) p])
    | .t, [.BoolOp .And (u :: v :: r) p] => chk x .t b [u] && (match r with
      | [] => chk y .t b [v]
      | w :: r => chk y .t b [.BoolOp .And (v :: w :: r) p])
    | _, _ => false
  | .or x y => fun m b l => match m, l with
    | .e, [.BoolOp .Or (u :: v :: r) p] => chk x .e b [u] && (match r with
      | [] => chk y .e b [v]
      | w :: r => chk y .e b [.BoolOp .Or (v :: w :: r) p])
    | .t, [.BoolOp .Or (u :: v :: r) p] => chk x .t b [u] && (match r with
      | [] => chk y .t b [v]
      | w :: r => chk y .t b [.BoolOp .Or (v :: w :: r) p])
    | .i _ _, [.BoolOp .Or (u :: v :: r) p] => chk x .e b [u] && (match r with
      | [] => chk y .e b [v]
      | w :: r => chk y .e b [.BoolOp .Or (v :: w :: r) p])
    | _, _ => false
  | .cmp o x y => fun m b l => match m, l with
    | .e, [.Compare u [op] [v] _] => coB o op && plainE v && chk x .e b [u] && chk y .e b [v]
    | .t, [.Compare u [op] [v] _] => coB o op && plainE v && chk x .e b [u] && chk y .e b [v]
    | _, _ => false
  | .chn o o' x y z => fun m b l => match m, l with
    | .e, [.Compare u [op, op'] [v, w] _] => coB o op && coB o' op' && plainE w && chk x .e b [u] && chk y .e b [v] && chk z .e b [w]
    | .t, [.Compare u [op, op'] [v, w] _] => coB o op && coB o' op' && plainE w && chk x .e b [u] && chk y .e b [v] && chk z .e b [w]
    | _, _ => false
  | .ite c x y => fun m b l => match m, l with
    | .e, [.IfExp q u v _] => chk c .t b [q] && chk x .e b [u] && chk y .e b [v]
    | .t, [.IfExp q u v _] => chk c .t b [q] && chk x .t b [u] && chk y .t b [v]
    | .i _ _, [.IfExp q u v _] => chk c .t b [q] && chk x .e b [u] && chk y .e b [v]
    | _, _ => false
  | .idx x y => fun m b l => match l with
    | [.Subscript u v p] => mdB m (.Subscript u v p) && plainE v && chk x .e b [u] && chk y .e b [v]
    | _ => false
  | .abs => fun m b l => match m, l with
    | .o, [] => true
    | _, _ => false
  | .prt x => fun m b l => match m, l with
    | .o, [u] => chk x .e b [u]
    | _, _ => false
  | .slc _ x lo hi => fun m b l => match l with
    | [.Subscript u (.Slice v w none q) p] => mdB m (.Subscript u (.Slice v w none q) p) && chk x .e b [u] && chk lo .o b v.toList && chk hi .o b w.toList
    | _ => false
  | .rev _ x => fun m b l => match l with
    | [.Subscript u (.Slice none none (some (.UnaryOp .USub (.Constant (.int i) k p1) p2)) p3) p] => mdB m (.Subscript u (.Slice none none (some (.UnaryOp .USub (.Constant (.int i) k p1) p2)) p3) p) && decide (i = 1) && chk x .e b [u]
    | _ => false
  | .evr _ x lo n => fun m b l => match l with
    | [.Subscript u (.Slice v none (some (.Constant (.int i) k p1)) p3) p] => mdB m (.Subscript u (.Slice v none (some (.Constant (.int i) k p1)) p3) p) && decide (i = n) && Nat.ble 2 n && chk x .e b [u] && chk lo .o b v.toList
    | _ => false
  | .lc _ own (.cl t it cond (.one elt)) => fun m b l => match l with
    | [.ListComp e [⟨tg, iter, ifs, 0⟩] scope p] => mdB m (.ListComp e [⟨tg, iter, ifs, 0⟩] scope p) && b.calm && plainE iter && blkB b.N b.sc scope own && (tgNs t).all (fun i => own.contains i) &&
        chk it (.i (isTupT t) tg) b [iter] && chkG t false (b.blk scope) [tg] && (match ifs with
          | [] => isTE cond
          | [c] => chk cond .t (b.blk scope) [c]
          | _ => false) && chk elt .e (b.blk scope) [e]
    | _ => false
  | .irng es => fun m b l => match m, l with
    | .i _ _, [.Call (.Name x _) (u :: us) [] _] => decide (x = "range") && glB b.sc x && plainE u && plainEs us && chk es .a b (u :: us)
    | _, _ => false
  | .ienu x => fun m b l => match m, l with
    | .i true tg, [.Call (.Name f _) [u] [] _] => isTupE tg && decide (f = "enumerate") && glB b.sc f && plainE u && chk x .e b [u]
    | _, _ => false
  | .izip x y => fun m b l => match m, l with
    | .i true tg, [.Call (.Name f _) [u, v] [] _] => isTupE tg && decide (f = "zip") && glB b.sc f && plainE u && plainE v && chk x .e b [u] && chk y .e b [v]
    | _, _ => false
  | .izt x y z => fun m b l => match m, l with
    | .i true tg, [.Call (.Name f _) [u, v, w] [] _] => isTupE tg && decide (f = "zip") && glB b.sc f && plainE u && plainE v && plainE w && chk x .e b [u] && chk y .e b [v] && chk z .e b [w]
    | _, _ => false
  | .call f es => fun m b l => match l with
    | [.Call (.Name x q) us [] p] => mdB m (.Call (.Name x q) us [] p) && atB T.fn f x && glB b.sc x && dbgB x && b.calm && plainEs us && chk es .a b us
    | _ => false
  | .calv f es => fun m b l => match l with
    | [.Call (.Name x q) (u :: us) [] p] => mdB m (.Call (.Name x q) (u :: us) [] p) && atB T.fn f x && glB b.sc x && dbgB x && b.calm && plainE u && plainEs us && chk es .a b (u :: us)
    | _ => false
  | .calk f ix es => fun m b l => match l with
    | [.Call (.Name x q) [] (kw :: kws) p] => mdB m (.Call (.Name x q) [] (kw :: kws) p) && atB T.fn f x && glB b.sc x && dbgB x && b.calm && (kw :: kws).all (fun w => w.arg.isSome) && (match T.pm[f]? with
      | some ps => kwB ps ((kw :: kws).filterMap (·.arg)) ix
      | none => false) && chk es .k b ((kw :: kws).map (·.value))
    | _ => false
  | .cale f es => fun m b l => match l with
    | [.Call fe (u :: us) [] p] => mdB m (.Call fe (u :: us) [] p) && (match fe with
      | .Attribute _ _ _ => false
      | _ => true) && b.calm && plainE u && plainEs us && chk f .e b [fe] && chk es .a b (u :: us)
    | [.Call fe [] [] p] => mdB m (.Call fe [] [] p) && (match fe with
      | .Attribute _ _ _ => false
      | _ => true) && b.calm && chk f .e b [fe] && chk es .a b []
    | _ => false
  | .blt c _ es => fun m b l => match l with
    | [.Call (.Name x q) (u :: us) [] p] => mdB m (.Call (.Name x q) (u :: us) [] p) && blOk c && decide (x = Str.ofString (blN c)) && glB b.sc x && b.calm && plainE u && plainEs us && chk es .a b (u :: us)
    | _ => false
  | .mth k _ o es => fun m b l => match l with
    | [.Call (.Attribute ob nm ap) [u] [] p] => mdB m (.Call (.Attribute ob nm ap) [u] [] p) && mtOk k && decide (nm = Str.ofString (mtN k)) && baseB ob && (ap.endLine == p.line) && plainE u && chk o .e b [ob] && chk es .a b [u]
    | _ => false
  | .frz x => fun m b l => match m, l with
    | .e, [u] => chk x .e b [u]
    | .i _ _, [u] => chk x .e b [u]
    | _, _ => false
  | .isx (.var i) t => fun m b l => match l with
    | [.Call (.Name x q) [.Name y r, .Name z r2] [] p] => mdB m (.Call (.Name x q) [.Name y r, .Name z r2] [] p) && decide (x = "isinstance") && glB b.sc x && b.exc.isSome && excT t && decide (z = Str.ofString t) && glB b.sc z && atB b.N i y && visB b.sc y && dbgB y && cdB y
    | _ => false
  | .maxd x y => fun m b l => match l with
    | [.Call (.Name f q) [u] [⟨some nm, v, kp⟩] p] => mdB m (.Call (.Name f q) [u] [⟨some nm, v, kp⟩] p) && decide (f = "max") && decide (nm = "default") && glB b.sc f && b.calm && plainE u && chk x .e b [u] && chk y .e b [v]
    | _ => false
  | .fld (.one .non) => fun m b l => match m, l with
    | .e, [_] => true
    | .t, [_] => true
    | .i _ _, [_] => true
    | _, _ => false
  | _ => fun _ _ _ => false
end
end Rn
set_option maxHeartbeats 1000007
/-! The look tells the truth: expressions. -/
namespace Rn
open L2 PySem PyProof.Rows PySem.Spec

/-- where the code stands: all that the rules ask -/
structure Good (T : Tx) (cons : Nat → Option PV) (isx : Nat → String → Bool) (call : Nat → List PV → Sto → R PV) (k : Nat) (b : Bk) (X : Cx) (Φ : Fm) (W : WX) : Prop where
  K : X.K = Φ.K
  N : X.N = b.N
  sc : X.env.scope = b.sc
  nd : X.N.Nodup
  fnm : ∀ x, fnB b x = true → X.fn x = true
  un : RUnits X
  tk : Takes X W
  po : PassesOwn (model X.prog X.w) X.A X.env X.xe
  calm : b.calm = true → X.calm = true ∧ Room k X.A
  stk : b.top = true → X.stack = X.env :: X.outer ∧ X.env.frame = some X.env.locals
  fn : ∀ n x, T.fn[n]? = some x → X.mg x = some (.ref (Φ.A.fa n))
  cn : ∀ n x, T.cn[n]? = some x → ∃ u p, X.mg x = some u ∧ cons n = some p ∧ ∃ v, RelV v u ∧ ∀ B R m H, RelP ⟨X.K, Φ.A, B, R⟩ m H p v
  cl : ∀ n x, T.cl[n]? = some x → X.mg x = some (.ref (Φ.A.ca n))
  bl : ∀ t ∈ bases, X.mg (Str.ofString t) = none
  defs : ∀ n, ∃ (fd : FuncData) (ps : List Str) (np : Nat), FnOk X.prog X.w X.K X.mg X.base (L2.CX X.prog X.w) k (Φ.A.fa n) fd ps (spR X.K Φ.A np (call n)) ∧ (∀ vs S, vs.length ≠ np → call n vs S = .no) ∧
    PySem.W.keepIn X.K (.ref (Φ.A.fa n)) = true ∧ Binds X.K fd ps []
  kwd : ∀ n ps, T.pm[n]? = some ps → ∃ (fd : FuncData) (np : Nat), FnOk X.prog X.w X.K X.mg X.base (L2.CX X.prog X.w) k (Φ.A.fa n) fd ps (spR X.K Φ.A np (call n)) ∧ (∀ vs S, vs.length ≠ np → call n vs S = .no) ∧
    PySem.W.keepIn X.K (.ref (Φ.A.fa n)) = true ∧ ∀ ks ix, kwB ps ks ix = true → KwBinds X.K fd ps ks ix
  rai : ∀ n x, T.cl[n]? = some x → n ∈ T.c0 → PySem.W.keepIn X.K (.ref (Φ.A.ca n)) = true ∧ Raises X (.ref (Φ.A.ca n)) ∧ ∃ (bm : List Value) (B n1 n2 : String), ExcBaseFacts B n1 n2 bm ∧ PySem.W.excIn X.K (Φ.A.ca n) bm n1 = true
  exm : ∀ n x n', T.cl[n]? = some x → (isx n' "ValueError" || isx n' "LookupError") = true → PySem.W.exmOne X.K (.ref (Φ.A.ca n')) (.ref (Φ.A.ca n)) = some (Nat.beq n n')
  xis : ∀ n x, T.cl[n]? = some x → ExcC X.K (Φ.A.ca n) ∧ ∀ t, excT t = true → PySem.W.kitOne X.K (.ref (Φ.A.ca n)) (.type t) = some (isx n t)
  exc : ∀ c, b.exc = some c → (∀ c' v, Φ.Xr c' v → c' = c) ∧ ∀ t, excT t = true → CallR X (.builtin "isinstance") (fun xs H Q => ∃ x, xs = [x, .ty t] ∧ Φ.Xr c x ∧ Q (.bl (isx c t)) H)

/-- what the look promises -/
def Say (m : Md) (X : Cx) (Φ : Fm) (W : WX) (es : List Expr) (f : Run) : Prop := match m with
  | .e => ∃ e, es = [e] ∧ PE X e (tR Φ W f)
  | .t => ∃ e, es = [e] ∧ PT X e (tRT Φ W f) ∧ ∀ o vs p, e = .BoolOp o vs p → PW X e (tRT Φ W f)
  | .i tup tg => ∃ e, es = [e] ∧ PI X tg e (tRI Φ W tup f)
  | .a => PA X es (tRA Φ W f)
  | .k => (∀ kws : List Keyword, kws.map (·.value) = es → PK X kws (tRA Φ W f)) ∧ ∀ ρ S l S1, f ρ S = .ok (.lst l) S1 → l.length = es.length
  | .o => ∃ o, es = o.toList ∧ PO X o (tRO Φ W f) ∧ ∀ ρ S p S', f ρ S = .ok p S' → ∃ o, oint p = some o

section
variable {X : Cx} {Φ : Fm} {W : WX} {pos p2 : Pos} {a b c e : Expr} {f g : Run} {m : Md}
/-- from a value to whatever is asked -/
theorem Say.of (hK : X.K = Φ.K) (hm : mdB m e = true) (h : PE X e (tR Φ W f)) : Say m X Φ W [e] f := by
  cases m with
  | e => exact ⟨e, rfl, h⟩
  | t =>
    refine ⟨e, rfl, pt_plainR hm hK h, fun o vs p q => ?_⟩
    subst q
    cases hm
  | i tup tg => exact ⟨e, rfl, pi_valR hK h⟩
  | a => cases hm
  | o => cases hm
  | k => cases hm
theorem Say.toE (h : Say .e X Φ W [e] f) : PE X e (tR Φ W f) := by
  obtain ⟨e', q, h⟩ := h
  cases q
  exact h
theorem Say.toT (h : Say .t X Φ W [e] f) : PT X e (tRT Φ W f) := by
  obtain ⟨e', q, h, _⟩ := h
  cases q
  exact h
theorem Say.toW {o : BoolOp} {vs : List Expr} {p : Pos} (h : Say .t X Φ W [.BoolOp o vs p] f) : PW X (.BoolOp o vs p) (tRT Φ W f) := by
  obtain ⟨e', q, _, h⟩ := h
  cases q
  exact h _ _ _ rfl
theorem Say.toI {tup : Bool} {tg : Expr} (h : Say (.i tup tg) X Φ W [e] f) : PI X tg e (tRI Φ W tup f) := by
  obtain ⟨e', q, h⟩ := h
  cases q
  exact h
theorem Say.toO {o : Option Expr} (h : Say .o X Φ W o.toList f) : PO X o (tRO Φ W f) ∧ ∀ ρ S p S', f ρ S = .ok p S' → ∃ o, oint p = some o := by
  obtain ⟨o', q, h⟩ := h
  cases o <;> cases o' <;> simp only [Option.toList] at q <;> first | cases q | skip
  · exact h
  · exact h
theorem pe_one {op : BoolOp} {t : TE} (h : PE X e t) : PE X (.BoolOp op [e] pos) t := ⟨fun pins s σ H Q I q => h.run pins s σ H Q I q⟩
end
end Rn
set_option maxHeartbeats 2000007
/-! The look tells the truth: expressions, one by one. -/
namespace Rn
open L2 PySem PyProof.Rows PySem.Spec

theorem and3 {a b c : Bool} (h : (a && b && c) = true) : a = true ∧ b = true ∧ c = true := ⟨(and2 (and2 h).1).1, (and2 (and2 h).1).2, (and2 h).2⟩
theorem plainEs_cons {e : Expr} {es : List Expr} (h : plainEs (e :: es) = true) : plainE e = true ∧ plainEs es = true := and2 (show (plainE e && plainEs es) = true from h)
theorem fold_of {x : Expr} (h : plainE x = true) (env : PySem.Env) : ∀ v, foldedSetIterable x env v = pure v := fun v => fold_plain h env v
theorem tup_is {tg : Expr} (h : isTupE tg = true) : ∃ es k p, tg = .Tuple es k p := by
  cases tg <;> first | exact ⟨_, _, _, rfl⟩ | cases h
theorem boot_ty {t : String} (h : tyB t = true) : Str.ofString t ≠ "__name__" ∧ (Str.ofString t == ("__debug__" : Str)) = false ∧ bootBuiltins (Str.ofString t) = some (.type t) ∧ t ∈ bases := by
  rcases or2 h with h | h
  · rcases or2 h with h | h
    · rcases or2 h with h | h
      · rcases or2 h with h | h
        · cases eq_of_beq h
          decide +kernel
        · cases eq_of_beq h
          decide +kernel
      · cases eq_of_beq h
        decide +kernel
    · cases eq_of_beq h
      decide +kernel
  · cases eq_of_beq h
    decide +kernel
theorem boot_ex {t : String} (h : excT t = true) : Str.ofString t ≠ "__name__" ∧ (Str.ofString t == ("__debug__" : Str)) = false ∧ bootBuiltins (Str.ofString t) = some (.type t) ∧ t ∈ bases := by
  rcases or2 h with h | h
  · cases eq_of_beq h
    decide +kernel
  · cases eq_of_beq h
    decide +kernel
theorem bl_in {c : Bl} (h : blOk c = true) : blN c ∈ bases := by
  cases c <;> decide +kernel

section
variable {T : Tx} {cons : Nat → Option PV} {isx : Nat → String → Bool} {call : Nat → List PV → Sto → R PV} {k : Nat}
/-- into a comprehension's block -/
theorem Good.blk {b : Bk} {X : Cx} {Φ : Fm} {W : WX} (g : Good T cons isx call k b X Φ W) (B : Addr → Prop) (s : Shared) (H : Hp) (scope : Scope) (C : Addr) (cl : List (Str × Addr)) (fp : List Addr) :
    Good T cons isx call k (b.blk scope) (X.blk s H scope (compEnvC scope cl C X.env) fp) (Φ.bo B) WF where
  K := g.K
  N := g.N
  sc := by
    show relS scope X.env.scope = relS scope b.sc
    rw [g.sc]
  nd := g.nd
  fnm := fun x h => h
  un := g.un
  tk := takes0
  po := PassesOwn.never
  calm := g.calm
  stk := fun h => nomatch h
  fn := g.fn
  cn := g.cn
  cl := g.cl
  bl := g.bl
  defs := g.defs
  kwd := g.kwd
  rai := g.rai
  exm := g.exm
  xis := g.xis
  exc := fun c h => nomatch h

theorem Good.gl {b : Bk} {X : Cx} {Φ : Fm} {W : WX} (g : Good T cons isx call k b X Φ W) {x : Str} (h : glB b.sc x = true) : Gl X x := by
  show X.env.scope.names.lookup x = _
  rw [g.sc]
  exact isKd_ok h
theorem Good.vis {b : Bk} {X : Cx} {Φ : Fm} {W : WX} (g : Good T cons isx call k b X Φ W) {x : Str} (h : visB b.sc x = true) : Vis X.env.scope x := by
  rw [g.sc]
  exact visB_ok h
theorem Good.at_ {b : Bk} {X : Cx} {Φ : Fm} {W : WX} (g : Good T cons isx call k b X Φ W) {i : Nat} {x : Str} (h : atB b.N i x = true) : X.N[i]? = some x := by
  rw [g.N]
  exact atB_ok h

/-! ### targets -/
theorem asg_each {e : Expr} (h : plainE e = true) (es : List Expr) (env : PySem.Env) : assignEach (e :: es) env = (false, assign e env) :: assignEach es env := by
  cases e <;> first | rfl | (simp [plainE] at h)
theorem asg_len : ∀ {es : List Expr} (env : PySem.Env), plainEs es = true → (assignEach es env).length = es.length ∧ (assignEach es env).findIdx? (·.1) = none
  | [], _, _ => ⟨rfl, rfl⟩
  | e :: es, env, h => by
    obtain ⟨h1, h2⟩ := plainEs_cons h
    obtain ⟨q1, q2⟩ := asg_len env h2
    rw [asg_each h1]
    refine ⟨by rw [List.length_cons, List.length_cons, q1], ?_⟩
    rw [List.findIdx?_cons, q2]
    rfl
/-- one target, or several -/
def SayG (l : Bool) (X : Cx) (Φ : Fm) (es : List Expr) (t : Tg) : Prop := match l with
  | false => ∃ e, es = [e] ∧ PG X e (gR Φ false t) ∧ (isTupT t = true → PG X e (gR Φ true t))
  | true => PGs X es (gRs Φ t)
theorem chkG_ok {b : Bk} {X : Cx} {Φ : Fm} {W : WX} (g : Good T cons isx call k b X Φ W) : ∀ (t : Tg) {l : Bool} {es : List Expr}, chkG t l b es = true → SayG l X Φ es t
  | .nm i, l, es, h => by
    simp only [chkG] at h
    split at h
    · rename_i x p
      obtain ⟨h1, h2, h3⟩ := and3 h
      refine ⟨_, rfl, pg_nmR g.nd (g.at_ h1) (by rw [g.sc]; exact locB_ok h2) ?_, fun z => nomatch z⟩
      rcases or2 h3 with h3 | h3
      · exact .inl (g.fnm _ h3)
      · refine .inr ?_
        rw [g.sc]
        exact isKd_ok h3
    · cases h
  | .nil, l, es, h => by
    simp only [chkG] at h
    split at h
    · exact pgs_nilR
    · cases h
  | .cons t r, l, es, h => by
    simp only [chkG] at h
    split at h
    · rename_i x xs
      obtain ⟨h1, h2, h3⟩ := and3 h
      obtain ⟨e, q, p1, _⟩ := chkG_ok g t h2
      cases q
      refine pgs_consR p1 (chkG_ok g r h3) ?_
      rw [asg_each h1]
      rfl
    · cases h
  | .tup t, l, es, h => by
    simp only [chkG] at h
    split at h
    · rename_i xs kk p
      obtain ⟨h, h4⟩ := and2 h
      obtain ⟨h1, h2, h3⟩ := and3 h
      have h4 := chkG_ok g t h4
      obtain ⟨q1, q2⟩ := asg_len X.env h2
      cases ht : tgLen t with
      | none =>
        rw [ht] at h3
        cases h3
      | some n =>
        rw [ht] at h3
        have hn : n = xs.length := Nat.eq_of_beq_eq_true h3
        have hl : ∀ S ps ρ ρ1, stores S t ps ρ = some ρ1 → ps.length = xs.length := fun S ps ρ ρ1 z => by
          rw [← hn]
          exact stores_len ht z
        exact ⟨_, rfl, pg_tupR g.K (g.calm h1).1 h4 q1 q2 hl, fun _ => pg_tupR g.K (g.calm h1).1 h4 q1 q2 hl⟩
    · cases h

/-! ### what a comprehension is made of -/
structure LcOk (X : Cx) (Φ : Fm) (W : WX) (N : List Str) (own : List Nat) (t : Tg) (fi fc fe : Run) (e tg iter : Expr) (ifs : List Expr) (scope : Scope) : Prop where
  hi : PI X tg iter (tRI Φ W (isTupT t) fi)
  ok : BlkOk X.N X.env.scope scope (ownP N own)
  hg : ∀ B (s : Shared) (H : Hp) (C : Addr) (cl : List (Str × Addr)) (fp : List Addr), PG (X.blk s H scope (compEnvC scope cl C X.env) fp) tg (gR (Φ.bo B) (isTupT t) t)
  ht : ∀ B (s : Shared) (H : Hp) (C : Addr) (cl : List (Str × Addr)) (fp : List Addr), PTs (X.blk s H scope (compEnvC scope cl C X.env) fp) ifs (tRT (Φ.bo B) WF fc)
  he : ∀ B (s : Shared) (H : Hp) (C : Addr) (cl : List (Str × Addr)) (fp : List Addr), PE (X.blk s H scope (compEnvC scope cl C X.env) fp) e (tR (Φ.bo B) WF fe)
  hs : ∀ x, foldedSetIterable iter X.env x = pure x
  hown : ∀ i ∈ tgNs t, i ∈ (ownP N own).map (·.2)

def Goal (T : Tx) (cons : Nat → Option PV) (isx : Nat → String → Bool) (call : Nat → List PV → Sto → R PV) (k : Nat) (x : Ex) : Prop :=
  ∀ {m : Md} {b : Bk} {es : List Expr} {X : Cx} {Φ : Fm} {W : WX}, Good T cons isx call k b X Φ W → chk T x m b es = true → Say m X Φ W es (ev call cons isx x)
theorem lc_ok {it cond elt : Ex} (G1 : Goal T cons isx call k it) (G2 : Goal T cons isx call k cond) (G3 : Goal T cons isx call k elt) {b : Bk} {X : Cx} {Φ : Fm} {W : WX} (g : Good T cons isx call k b X Φ W) {own : List Nat} {t : Tg} {e tg iter : Expr} {ifs : List Expr} {scope : Scope}
    (h : (plainE iter && blkB b.N b.sc scope own && (tgNs t).all (fun i => own.contains i) &&
        chk T it (.i (isTupT t) tg) b [iter] && chkG t false (b.blk scope) [tg] && (match ifs with
          | [] => isTE cond
          | [c] => chk T cond .t (b.blk scope) [c]
          | _ => false) && chk T elt .e (b.blk scope) [e]) = true) :
    LcOk X Φ W b.N own t (ev call cons isx it) (ev call cons isx cond) (ev call cons isx elt) e tg iter ifs scope := by
  obtain ⟨h, h7⟩ := and2 h
  obtain ⟨h, h6⟩ := and2 h
  obtain ⟨h, h5⟩ := and2 h
  obtain ⟨h, h4⟩ := and2 h
  obtain ⟨h1, h2, h3⟩ := and3 h
  refine ⟨(G1 g h4).toI, ?_, fun B s H C cl fp => ?_, fun B s H C cl fp => ?_, fun B s H C cl fp => (G3 (g.blk B s H scope C cl fp) h7).toE, fold_of h1 X.env, fun i hi => ?_⟩
  · rw [g.N, g.sc]
    exact blkB_ok h2
  · obtain ⟨e', q, p1, p2⟩ := chkG_ok (g.blk B s H scope C cl fp) t h5
    cases q
    cases ht : isTupT t with
    | true => exact p2 ht
    | false => exact p1
  · cases ifs with
    | nil =>
      obtain rfl := isTE_ok h6
      exact pts_nilR
    | cons c r =>
      cases r with
      | nil => exact pts_one (G2 (g.blk B s H scope C cl fp) h6).toT
      | cons _ _ => cases h6
  · rw [ownP_snd]
    have q := all_ok h3 i hi
    exact List.contains_iff_mem.mp q
end
end Rn
set_option maxHeartbeats 2000007
/-! max of a list of numbers, with a default. -/
namespace Rn
open L2 PySem PyProof.Rows PySem.Spec
section
variable {X : Cx} {Φ : Fm} {W : WX} {m m1 : Mp} {H H1 : Hp} {S : Sto} {ρ : Env} {σ : L2.St} {pos p2 kp : Pos} {a b e d : Expr} {f g : Run}
def rMaxK (K : PySem.W.Frag) : List V → List V → Hp → VK → Prop := fun vs zs H Q => ∃ a ns z, vs = [V.ref a] ∧ zs = [z] ∧ SqL K H a (ns.map V.int) ∧ (ns = [] → Q z H) ∧ ∀ m, m ∈ ns → (∀ y, y ∈ ns → y ≤ m) → Q (.int m) H
theorem cr_maxK (hc : X.calm = true) (hu : RUnits X) : CallRK X (.builtin "max") ["default"] (rMaxK X.K) := fun pins s σ H xs zs us ws Q I r rz ⟨a, ns, z, e1, e2, hs, q0, q⟩ => by
  subst e1
  subst e2
  have zq5 := I.list hs
  obtain ⟨its, rv, hl, _⟩ := zq5
  rw [Vals.ref1 r]
  obtain ⟨u, rfl, ru⟩ := vals1 rz
  obtain ⟨as, rd⟩ := ints_read (h := s.heap) rv
  have flat := ints_flat ns
  unfold RUnits at hu
  refine PySem.W.max_list_default (xs := ns.map PyData.int) (I.ok.hd hc) hl.isList rd (ints_alike ns) (by rw [flat]; omega) (fun en h' tk hk => ⟨z, H, I.kept hk, ru, q0 (List.map_eq_nil_iff.mp en)⟩) fun y ys i v h' tk bs en _ rd' hk => ?_
  cases ns with
  | nil => cases en
  | cons n r =>
    cases en
    rw [PySem.W.maxD_ints] at rd'
    obtain ⟨t, ev, _⟩ := reads_int_inv rd'
    exact ⟨.int (r.foldl max n), H, I.kept hk, ⟨t, ev⟩, q _ (fold_max r n).1 (fold_max r n).2⟩
theorem pe_maxdR (hK : X.K = Φ.K) (hc : X.calm = true) (hu : RUnits X) (hg : Gl X "max") (hm : X.mg "max" = none) (hp : plainE e = true) (ha : PE X e (tR Φ W f)) (hd : PE X d (tR Φ W g)) :
    PE X (.Call (.Name "max" p2) [e] [⟨some "default", d, kp⟩] pos) (tR Φ W fun ρ S => (f ρ S).bind fun v S1 => (g ρ S1).bind fun w S2 => withO (lstOf S2 v) fun l => withO (intsL l) fun l => match imax l with
      | some i => .ok (.int i) S2
      | none => .ok w S2) := by
  have he : backTo pos (starEach [e] X.env) = (false, eval e X.env) :: backTo pos (starEach [] X.env) := by
    rw [star_plain hp [] X.env]
    rfl
  have hpl : (backTo pos (starEach [e] X.env)).any (·.1) = false := by
    rw [he]
    rfl
  refine PE.of (pe_callBK (cr_maxK hc hu) hg hm (by decide +kernel) (pa_cons ha pa_nil (star_plain hp [] X.env)) (pk_cons hd pk_nil) (by decide) (by decide) he hpl rfl rfl rfl) fun σ H Q ⟨m, ρ, S, s, E, h⟩ => ?_
  refine chain s E h fun p S1 m1 H1 v e1 s1 E1 r1 q1 => ?_
  refine chain (f := g) s1 E1 q1 fun p2 S2 m2 H2 w e2 s2 E2 r2 q2 => ?_
  obtain ⟨l, el, q2⟩ := withO_ok q2
  obtain ⟨ns, en, q2⟩ := withO_ok q2
  obtain ⟨a, ys, rfl, hs, ry⟩ := lst_ok s2 (r1.ext e2) el
  have e3 := intsL_rel en ry
  subst e3
  refine ⟨a, ns, w, rfl, rfl, by rw [hK]; exact SqL.of hs, fun z => ?_, fun k k1 k2 => ?_⟩
  · subst z
    exact fin q2 s2 r2
  · cases hi : imax ns with
    | none =>
      cases ns with
      | nil => exact nomatch k1
      | cons n r => cases hi
    | some i =>
      rw [hi] at q2
      rw [imax_uniq hi k1 k2]
      exact fin q2 s2 (by simp only [RelP])
end
end Rn
set_option maxHeartbeats 4000007
/-! The look tells the truth: all expressions. -/
namespace Rn
open L2 PySem PyProof.Rows PySem.Spec

section
variable {T : Tx} {cons : Nat → Option PV} {isx : Nat → String → Bool} {call : Nat → List PV → Sto → R PV} {k : Nat}
theorem dbg_ok {x : Str} (h : dbgB x = true) : (x == ("__debug__" : Str)) = false := not_ok h
theorem cd_ok {x : Str} (h : cdB x = true) : (x == ("__classdict__" : Str)) = false := not_ok h
theorem isx_case {i : Nat} {t : String} : Goal T cons isx call k (.isx (.var i) t) := fun g h => by
  rename_i m b l X Φ W
  simp only [chk] at h
  split at h
  · rename_i x q y r z r2 p
    obtain ⟨h, h11⟩ := and2 h
    obtain ⟨h, h10⟩ := and2 h
    obtain ⟨h, h9⟩ := and2 h
    obtain ⟨h, h8⟩ := and2 h
    obtain ⟨h, h7⟩ := and2 h
    obtain ⟨h, h6⟩ := and2 h
    obtain ⟨h, h5⟩ := and2 h
    obtain ⟨h, h4⟩ := and2 h
    obtain ⟨h1, h2, h3⟩ := and3 h
    cases of_decide_eq_true h2
    cases of_decide_eq_true h6
    obtain ⟨b1, b2, b3, b4⟩ := boot_ex h5
    obtain ⟨c, hc⟩ := Option.isSome_iff_exists.mp h4
    obtain ⟨x1, x2⟩ := g.exc c hc
    have pv : PE X (.Name y r) (tR Φ W fun ρ S => getV ρ i S) := pe_varR (g.at_ h8) (g.vis h9) (dbg_ok h10) (cd_ok h11)
    have pt : PE X (.Name (Str.ofString t) r2) (tR Φ W fun _ S => .ok (.ty t) S) := pe_gtyR (g.gl h7) (g.bl _ b4) b3 b1 b2
    refine Say.of g.K h1 (PE.of (pe_callB (x2 t h5) (g.gl h3) (g.bl "isinstance" (by decide +kernel)) (by decide +kernel) (pa_cons pv (pa_cons pt pa_nil))) fun σ H Q ⟨m, ρ, S, s, E, h⟩ => ?_)
    have h : PostE Φ W m H σ ((getV ρ i S).bind fun v S1 => match v with
      | .xc c _ => .ok (.bl (isx c t)) S1
      | _ => .no) Q := h
    refine chain (f := fun ρ S => getV ρ i S) s E h fun p S1 m1 H1 v e1 s1 E1 r1 q1 => ?_
    cases p with
    | xc c' l =>
      simp only [RelP] at r1
      cases x1 c' v r1
      refine ⟨m1, ρ, S1, s1, E1, fun m2 H2 w e2 s2 r2 => ?_⟩
      simp only [RelP] at r2
      subst r2
      exact ⟨v, rfl, r1, fin (PostE.ext e2 q1) s2 (by simp only [RelP])⟩
    | _ => exact q1.elim
  · cases h
theorem lc_case {bx : Bool} {own : List Nat} {t : Tg} {it cond elt : Ex} (G1 : Goal T cons isx call k it) (G2 : Goal T cons isx call k cond) (G3 : Goal T cons isx call k elt) : Goal T cons isx call k (.lc bx own (.cl t it cond (.one elt))) := fun g h => by
  simp only [chk] at h
  split at h
  rename_i e tg iter ifs scope p
  · obtain ⟨h, h9⟩ := and2 h
    obtain ⟨h, h8⟩ := and2 h
    obtain ⟨h, h7⟩ := and2 h
    obtain ⟨h, h6⟩ := and2 h
    obtain ⟨h, h5⟩ := and2 h
    obtain ⟨h, h4⟩ := and2 h
    obtain ⟨h1, h2, h3⟩ := and3 h
    obtain ⟨hi, ok, hg, ht, he, hs, ho⟩ := lc_ok G1 G2 G3 g (Bool.and_eq_true_iff.mpr ⟨Bool.and_eq_true_iff.mpr ⟨Bool.and_eq_true_iff.mpr ⟨Bool.and_eq_true_iff.mpr ⟨Bool.and_eq_true_iff.mpr ⟨Bool.and_eq_true_iff.mpr ⟨h3, h4⟩, h5⟩, h6⟩, h7⟩, h8⟩, h9⟩)
    have q := pe_lcR (bx := bx) (pos := p) (g.calm h2).1 g.nd hi ok hg ht he hs ho
    rw [ownP_snd] at q
    exact Say.of g.K h1 q
  · cases h
theorem nil_of {x : Ex} {b : Bk} (h : chk T x .a b [] = true) : x = .nil := by
  cases x with
  | nil => rfl
  | lc bx own c =>
    cases c with
    | cl t it cond r => cases r <;> simp [chk] at h
    | _ => simp [chk] at h
  | isx o t => cases o <;> simp [chk] at h
  | fld o =>
    cases o with
    | one z => cases z <;> simp [chk] at h
    | _ => simp [chk] at h
  | _ => simp [chk] at h
theorem kw_len : ∀ {kws : List Keyword}, kws.all (fun w => w.arg.isSome) = true → (kws.filterMap (·.arg)).length = kws.length
  | [], _ => rfl
  | ⟨nm, v, kp⟩ :: r, h => by
    obtain ⟨h1, h2⟩ := and2 (show (nm.isSome && r.all (fun w => w.arg.isSome)) = true from h)
    cases nm with
    | none => cases h1
    | some x =>
      rw [List.filterMap_cons]
      show (x :: r.filterMap (·.arg)).length = _
      rw [List.length_cons, List.length_cons, kw_len h2]
theorem kw_trees (env : PySem.Env) (pos : Pos) : ∀ {kws : List Keyword}, kws.all (fun w => w.arg.isSome) = true → (backToKw pos (keywordEach kws env)).all (·.1.isSome) = true ∧ (backToKw pos (keywordEach kws env)).filterMap (·.1) = kws.filterMap (·.arg) ∧ ((backTo pos (starEach [] env)).any (·.1) || (backToKw pos (keywordEach kws env)).any (·.1.isNone)) = false
  | [], _ => ⟨rfl, rfl, rfl⟩
  | ⟨nm, v, kp⟩ :: r, h => by
    obtain ⟨h1, h2⟩ := and2 (show (nm.isSome && r.all (fun w => w.arg.isSome)) = true from h)
    cases nm with
    | none => cases h1
    | some x =>
      obtain ⟨q1, q2, q3⟩ := kw_trees env pos h2
      refine ⟨q1, ?_, q3⟩
      rw [List.filterMap_cons]
      show x :: (backToKw pos (keywordEach r env)).filterMap (·.1) = x :: r.filterMap (·.arg)
      rw [q2]
theorem chk_ok : ∀ x : Ex, Goal T cons isx call k x
  | .non => fun g h => by
    simp only [chk] at h
    split at h
    · exact Say.of g.K h pe_noneR
    · cases h
  | .bl t => fun g h => by
    simp only [chk] at h
    split at h
    · obtain ⟨h1, h2⟩ := and2 h
      cases eq_of_beq h2
      exact Say.of g.K h1 pe_blR
    · cases h
  | .int i => fun g h => by
    simp only [chk] at h
    split at h
    · obtain ⟨h1, h2⟩ := and2 h
      cases of_decide_eq_true h2
      exact Say.of g.K h1 pe_intR
    · cases h
  | .str x => fun g h => by
    simp only [chk] at h
    split at h
    · obtain ⟨h1, h2, h3⟩ := and3 h
      cases of_decide_eq_true h2
      exact Say.of g.K h1 (pe_strR h3)
    · cases h
  | .gty t => fun g h => by
    simp only [chk] at h
    split at h
    · obtain ⟨h1, h2, h3⟩ := and3 h
      cases of_decide_eq_true h2
      obtain ⟨b1, b2, b3, b4⟩ := boot_ty h1
      exact ⟨_, rfl, pe_gtyR (g.gl h3) (g.bl _ b4) b3 b1 b2⟩
    · cases h
  | .var i => fun g h => by
    simp only [chk] at h
    split at h
    · obtain ⟨h, h5⟩ := and2 h
      obtain ⟨h, h4⟩ := and2 h
      obtain ⟨h1, h2, h3⟩ := and3 h
      exact Say.of g.K h1 (pe_varR (g.at_ h2) (g.vis h3) (dbg_ok h4) (cd_ok h5))
    · cases h
  | .gfn f => fun g h => by
    simp only [chk] at h
    split at h
    · obtain ⟨h1, h2, h3⟩ := and3 h
      exact ⟨_, rfl, pe_gfnR (g.gl h2) (g.fn _ _ (atB_ok h1)) (dbg_ok h3)⟩
    · cases h
  | .gcn c => fun g h => by
    rename_i m b es X Φ W
    simp only [chk] at h
    split at h
    · obtain ⟨h, h4⟩ := and2 h
      obtain ⟨h1, h2, h3⟩ := and3 h
      obtain ⟨u, p, q1, q2, v, q3, q4⟩ := g.cn _ _ (atB_ok h2)
      have q5 : ∀ p', cons c = some p' → ConV Φ u p' := fun p' e => by
        rw [q2] at e
        cases e
        refine ⟨v, q3, fun m H => ?_⟩
        have z := q4 Φ.Bo Φ.Xr m H
        rw [g.K] at z
        exact z
      exact Say.of g.K h1 (pe_gcnR (g.gl h3) q1 q5 (dbg_ok h4) ⟨p, q2⟩)
    · cases h
  | .nil => fun g h => by
    simp only [chk] at h
    split at h
    · exact pa_nilR
    · refine ⟨fun kws hk => ?_, fun ρ S l S1 e => ?_⟩
      · cases kws with
        | nil => exact pk_nilR
        | cons a r => cases hk
      · have e : Rn.R.ok (PV.lst []) S = Rn.R.ok (.lst l) S1 := e
        cases e
        rfl
    · cases h
  | .cons x r => fun g h => by
    simp only [chk] at h
    split at h
    · obtain ⟨h1, h2, h3⟩ := and3 h
      exact pa_consR h1 (chk_ok x g h2).toE (chk_ok r g h3)
    · obtain ⟨h2, h3⟩ := and2 h
      obtain ⟨q1, q2⟩ := chk_ok r g h3
      refine ⟨fun kws hk => ?_, fun ρ S l S1 e => ?_⟩
      · cases kws with
        | nil => cases hk
        | cons a kr =>
          obtain ⟨nm, v, kp⟩ := a
          rw [List.map_cons] at hk
          obtain ⟨z1, z2⟩ := List.cons.inj hk
          have z1 : v = _ := z1
          subst z1
          exact pk_consR (chk_ok x g h2).toE (q1 kr z2)
      · have e : ((ev call cons isx x ρ S).bind fun v S1 => (ev call cons isx r ρ S1).bind fun r S2 => withL r fun vs => Rn.R.ok (PV.lst (v :: vs)) S2) = Rn.R.ok (PV.lst l) S1 := e
        cases e1 : ev call cons isx x ρ S with
        | no =>
          rw [e1] at e
          cases e
        | ex c S2 =>
          rw [e1] at e
          cases e
        | ok v S2 =>
          rw [e1] at e
          have e : ((ev call cons isx r ρ S2).bind fun r S2 => withL r fun vs => Rn.R.ok (PV.lst (v :: vs)) S2) = Rn.R.ok (PV.lst l) S1 := e
          cases e2 : ev call cons isx r ρ S2 with
          | no =>
            rw [e2] at e
            cases e
          | ex c S3 =>
            rw [e2] at e
            cases e
          | ok w S3 =>
            rw [e2] at e
            have e : (withL w fun vs => Rn.R.ok (PV.lst (v :: vs)) S3) = Rn.R.ok (PV.lst l) S1 := e
            cases w with
            | lst l' =>
              have e : Rn.R.ok (PV.lst (v :: l')) S3 = Rn.R.ok (PV.lst l) S1 := e
              cases e
              rw [List.length_cons, List.length_cons, q2 _ _ _ _ e2]
            | _ => cases e
    · cases h
  | .tup es => fun g h => by
    simp only [chk] at h
    split at h
    · obtain ⟨h1, h2⟩ := and2 h
      exact Say.of g.K h1 (pe_tupR (chk_ok es g h2))
    · cases h
  | .lst bx es => fun g h => by
    simp only [chk] at h
    split at h
    · obtain ⟨h1, h2⟩ := and2 h
      exact Say.of g.K h1 (pe_lstR (chk_ok es g h2))
    · cases h
  | .bin o bx x y => fun g h => by
    simp only [chk] at h
    split at h
    · obtain ⟨h, h4⟩ := and2 h
      obtain ⟨h1, h2, h3⟩ := and3 h
      exact Say.of g.K h1 (pe_bin (boB_ok h2) g.K (chk_ok x g h3).toE (chk_ok y g h4).toE)
    · cases h
  | .neg x => fun g h => by
    simp only [chk] at h
    split at h
    · obtain ⟨h1, h2⟩ := and2 h
      exact Say.of g.K h1 (pe_negR (chk_ok x g h2).toE)
    · cases h
  | .not x => fun g h => by
    simp only [chk] at h
    split at h
    · exact ⟨_, rfl, pe_notR (chk_ok x g h).toE g.K⟩
    · exact ⟨_, rfl, pt_notR (chk_ok x g h).toT, fun o vs p e => nomatch e⟩
    · cases h
  | .and x y => fun g h => by
    simp only [chk] at h
    split at h
    · obtain ⟨h1, h2⟩ := and2 h
      split at h2
      · exact ⟨_, rfl, pe_andR g.K (chk_ok x g h1).toE (pe_one (chk_ok y g h2).toE)⟩
      · exact ⟨_, rfl, pe_andR g.K (chk_ok x g h1).toE (chk_ok y g h2).toE⟩
    · rename_i u v r p
      obtain ⟨h1, h2⟩ := and2 h
      split at h2
      · have q := pw_andR (pos := p) (chk_ok x g h1).toT (pw_and1 (chk_ok y g h2).toT)
        refine ⟨_, rfl, q.pt, fun o vs p e => ?_⟩
        cases e
        exact q
      · have q := pw_andR (pos := p) (chk_ok x g h1).toT (chk_ok y g h2).toW
        refine ⟨_, rfl, q.pt, fun o vs p e => ?_⟩
        cases e
        exact q
    · cases h
  | .or x y => fun g h => by
    simp only [chk] at h
    split at h
    · obtain ⟨h1, h2⟩ := and2 h
      split at h2
      · exact ⟨_, rfl, pe_orR g.K (chk_ok x g h1).toE (pe_one (chk_ok y g h2).toE)⟩
      · exact ⟨_, rfl, pe_orR g.K (chk_ok x g h1).toE (chk_ok y g h2).toE⟩
    · rename_i u v r p
      obtain ⟨h1, h2⟩ := and2 h
      split at h2
      · have q := pw_orR (pos := p) (chk_ok x g h1).toT (pw_or1 (chk_ok y g h2).toT)
        refine ⟨_, rfl, q.pt, fun o vs p e => ?_⟩
        cases e
        exact q
      · have q := pw_orR (pos := p) (chk_ok x g h1).toT (chk_ok y g h2).toW
        refine ⟨_, rfl, q.pt, fun o vs p e => ?_⟩
        cases e
        exact q
    · obtain ⟨h1, h2⟩ := and2 h
      split at h2
      · exact ⟨_, rfl, pi_valR g.K (pe_orR g.K (chk_ok x g h1).toE (pe_one (chk_ok y g h2).toE))⟩
      · exact ⟨_, rfl, pi_valR g.K (pe_orR g.K (chk_ok x g h1).toE (chk_ok y g h2).toE)⟩
    · cases h
  | .cmp o x y => fun g h => by
    simp only [chk] at h
    split at h
    · obtain ⟨h, h4⟩ := and2 h
      obtain ⟨h1, h2, h3⟩ := and3 h
      exact ⟨_, rfl, pe_cmpRR (coB_ok h1) g.K g.un h2 (chk_ok x g h3).toE (chk_ok y g h4).toE⟩
    · obtain ⟨h, h4⟩ := and2 h
      obtain ⟨h1, h2, h3⟩ := and3 h
      exact ⟨_, rfl, pt_cmpRR (coB_ok h1) g.K g.un h2 (chk_ok x g h3).toE (chk_ok y g h4).toE, fun o vs p e => nomatch e⟩
    · cases h
  | .chn o o' x y z => fun g h => by
    simp only [chk] at h
    split at h
    · obtain ⟨h, h6⟩ := and2 h
      obtain ⟨h, h5⟩ := and2 h
      obtain ⟨h, h4⟩ := and2 h
      obtain ⟨h1, h2, h3⟩ := and3 h
      exact ⟨_, rfl, pe_chnR (coB_ok h1) (coB_ok h2) g.K g.un h3 (chk_ok x g h4).toE (chk_ok y g h5).toE (chk_ok z g h6).toE⟩
    · obtain ⟨h, h6⟩ := and2 h
      obtain ⟨h, h5⟩ := and2 h
      obtain ⟨h, h4⟩ := and2 h
      obtain ⟨h1, h2, h3⟩ := and3 h
      exact ⟨_, rfl, pt_chnR (coB_ok h1) (coB_ok h2) g.K g.un h3 (chk_ok x g h4).toE (chk_ok y g h5).toE (chk_ok z g h6).toE, fun o vs p e => nomatch e⟩
    · cases h
  | .ite c x y => fun g h => by
    simp only [chk] at h
    split at h
    · obtain ⟨h1, h2, h3⟩ := and3 h
      exact ⟨_, rfl, pe_iteR (chk_ok c g h1).toT (chk_ok x g h2).toE (chk_ok y g h3).toE⟩
    · obtain ⟨h1, h2, h3⟩ := and3 h
      exact ⟨_, rfl, pt_iteR (chk_ok c g h1).toT (chk_ok x g h2).toT (chk_ok y g h3).toT, fun o vs p e => nomatch e⟩
    · obtain ⟨h1, h2, h3⟩ := and3 h
      exact ⟨_, rfl, pi_valR g.K (pe_iteR (chk_ok c g h1).toT (chk_ok x g h2).toE (chk_ok y g h3).toE)⟩
    · cases h
  | .idx x y => fun g h => by
    simp only [chk] at h
    split at h
    · obtain ⟨h, h4⟩ := and2 h
      obtain ⟨h1, h2, h3⟩ := and3 h
      exact Say.of g.K h1 (pe_idxR g.K h2 (chk_ok x g h3).toE (chk_ok y g h4).toE)
    · cases h
  | .abs => fun g h => by
    simp only [chk] at h
    split at h
    · refine ⟨none, rfl, po_absR, fun ρ S p S' e => ?_⟩
      have e : R.ok PV.non S = .ok p S' := e
      cases e
      exact ⟨none, rfl⟩
    · cases h
  | .prt x => fun g h => by
    simp only [chk] at h
    split at h
    · refine ⟨some _, rfl, po_prtR (chk_ok x g h).toE, fun ρ S p S' e => ?_⟩
      have e : ((ev call cons isx x ρ S).bind fun v S1 => match v with
        | .int i => .ok (.int i) S1
        | _ => .no) = .ok p S' := e
      cases hr : ev call cons isx x ρ S with
      | no =>
        rw [hr] at e
        cases e
      | ex c S1 =>
        rw [hr] at e
        cases e
      | ok v S1 =>
        rw [hr] at e
        cases v with
        | int i =>
          have e : R.ok (.int i) S1 = R.ok p S' := e
          cases e
          exact ⟨some i, rfl⟩
        | _ =>
          have e : R.no = R.ok p S' := e
          cases e
    · cases h
  | .slc bx x lo hi => fun g h => by
    simp only [chk] at h
    split at h
    · obtain ⟨h, h4⟩ := and2 h
      obtain ⟨h1, h2, h3⟩ := and3 h
      obtain ⟨l1, l2⟩ := (chk_ok lo g h3).toO
      obtain ⟨u1, u2⟩ := (chk_ok hi g h4).toO
      exact Say.of g.K h1 (pe_slcR g.K (chk_ok x g h2).toE l1 u1 l2 u2)
    · cases h
  | .rev bx x => fun g h => by
    simp only [chk] at h
    split at h
    · obtain ⟨h1, h2, h3⟩ := and3 h
      cases of_decide_eq_true h2
      exact Say.of g.K h1 (pe_revR g.K (chk_ok x g h3).toE)
    · cases h
  | .evr bx x lo n => fun g h => by
    simp only [chk] at h
    split at h
    · obtain ⟨h, h5⟩ := and2 h
      obtain ⟨h, h4⟩ := and2 h
      obtain ⟨h1, h2, h3⟩ := and3 h
      cases of_decide_eq_true h2
      obtain ⟨l1, l2⟩ := (chk_ok lo g h5).toO
      exact Say.of g.K h1 (pe_evrR g.K (Nat.le_of_ble_eq_true h3) (chk_ok x g h4).toE l1 l2)
    · cases h
  | .lc bx own c => fun g h => by
    rename_i m b es X Φ W
    cases c with
    | cl t it cond r =>
      cases r with
      | one elt => exact lc_case (chk_ok it) (chk_ok cond) (chk_ok elt) g h
      | _ =>
        simp only [chk] at h
        cases h
    | _ =>
      simp only [chk] at h
      cases h
  | .irng es => fun g h => by
    simp only [chk] at h
    split at h
    · obtain ⟨h, h5⟩ := and2 h
      obtain ⟨h, h4⟩ := and2 h
      obtain ⟨h1, h2, h3⟩ := and3 h
      cases of_decide_eq_true h1
      exact ⟨_, rfl, pi_rngR (g.gl h2) (g.bl "range" (by decide +kernel)) h3 h4 (chk_ok es g h5)⟩
    · cases h
  | .ienu x => fun g h => by
    simp only [chk] at h
    split at h
    · obtain ⟨h, h5⟩ := and2 h
      obtain ⟨h, h4⟩ := and2 h
      obtain ⟨h1, h2, h3⟩ := and3 h
      obtain ⟨es, kk, p, rfl⟩ := tup_is h1
      cases of_decide_eq_true h2
      exact ⟨_, rfl, pi_enuR g.K (g.gl h3) (g.bl "enumerate" (by decide +kernel)) h4 (chk_ok x g h5).toE⟩
    · cases h
  | .izip x y => fun g h => by
    simp only [chk] at h
    split at h
    · obtain ⟨h, h7⟩ := and2 h
      obtain ⟨h, h6⟩ := and2 h
      obtain ⟨h, h5⟩ := and2 h
      obtain ⟨h, h4⟩ := and2 h
      obtain ⟨h1, h2, h3⟩ := and3 h
      obtain ⟨es, kk, p, rfl⟩ := tup_is h1
      cases of_decide_eq_true h2
      exact ⟨_, rfl, pi_zipR g.K (g.gl h3) (g.bl "zip" (by decide +kernel)) h4 h5 (chk_ok x g h6).toE (chk_ok y g h7).toE⟩
    · cases h
  | .izt x y z => fun g h => by
    simp only [chk] at h
    split at h
    · obtain ⟨h, h9⟩ := and2 h
      obtain ⟨h, h8⟩ := and2 h
      obtain ⟨h, h7⟩ := and2 h
      obtain ⟨h, h6⟩ := and2 h
      obtain ⟨h, h5⟩ := and2 h
      obtain ⟨h, h4⟩ := and2 h
      obtain ⟨h1, h2, h3⟩ := and3 h
      obtain ⟨es, kk, p, rfl⟩ := tup_is h1
      cases of_decide_eq_true h2
      exact ⟨_, rfl, pi_zip3 g.K (g.gl h3) (g.bl "zip" (by decide +kernel)) h4 h5 h6 (chk_ok x g h7).toE (chk_ok y g h8).toE (chk_ok z g h9).toE⟩
    · cases h
  | .call f es => fun g h => by
    rename_i m b l X Φ W
    simp only [chk] at h
    split at h
    · rename_i x q us p
      obtain ⟨h, h7⟩ := and2 h
      obtain ⟨h, h6⟩ := and2 h
      obtain ⟨h, h5⟩ := and2 h
      obtain ⟨h, h4⟩ := and2 h
      obtain ⟨h1, h2, h3⟩ := and3 h
      obtain ⟨fd, ps, np, F, hl, hk, hb⟩ := g.defs f
      rw [g.K] at F
      have hm := g.fn _ _ (atB_ok h2)
      have ha := chk_ok es g h7
      refine Say.of g.K h1 ?_
      cases us with
      | nil =>
        obtain rfl := nil_of h7
        exact pe_call0R (by rw [← g.K] at F ⊢; exact F) hl (g.calm h5).2 (g.gl h3) hm hk hb g.tk (dbg_ok h4)
      | cons u us =>
        obtain ⟨p1, p2⟩ := plainEs_cons h6
        exact pe_callR (by rw [← g.K] at F ⊢; exact F) hl (g.calm h5).2 (g.gl h3) hm hk hb g.tk p1 p2 (dbg_ok h4) ha
    · cases h
  | .calv f es => fun g h => by
    rename_i m b l X Φ W
    simp only [chk] at h
    split at h
    · obtain ⟨h, h8⟩ := and2 h
      obtain ⟨h, h7⟩ := and2 h
      obtain ⟨h, h6⟩ := and2 h
      obtain ⟨h, h5⟩ := and2 h
      obtain ⟨h, h4⟩ := and2 h
      obtain ⟨h1, h2, h3⟩ := and3 h
      obtain ⟨fd, ps, np, F, hl, hk, hb⟩ := g.defs f
      have hm := g.fn _ _ (atB_ok h2)
      have ha := chk_ok es g h8
      exact Say.of g.K h1 (pe_calvR (by rw [← g.K]; exact F) hl (g.calm h5).2 (g.gl h3) hm hk hb g.tk h6 h7 (dbg_ok h4) ha)
    · cases h
  | .cale f es => fun g h => by
    rename_i m b l X Φ W
    simp only [chk] at h
    split at h
    · rename_i fe u us p
      obtain ⟨h, h7⟩ := and2 h
      obtain ⟨h, h6⟩ := and2 h
      obtain ⟨h, h5⟩ := and2 h
      obtain ⟨h, h4⟩ := and2 h
      obtain ⟨h1, h2, h3⟩ := and3 h
      have D : Defs X Φ k call := fun n => by
        obtain ⟨fd, ps, np, F, hl, hk, hb⟩ := g.defs n
        exact ⟨fd, ps, np, by rw [← g.K]; exact F, hl, hk, hb⟩
      refine Say.of g.K h1 (pe_caleR D (g.calm h3).2 g.tk h4 h5 (chk_ok f g h6).toE (chk_ok es g h7) ?_)
      cases fe <;> first | rfl | cases h2
    · rename_i fe p
      obtain ⟨h, h5⟩ := and2 h
      obtain ⟨h, h4⟩ := and2 h
      obtain ⟨h1, h2, h3⟩ := and3 h
      have D : Defs X Φ k call := fun n => by
        obtain ⟨fd, ps, np, F, hl, hk, hb⟩ := g.defs n
        exact ⟨fd, ps, np, by rw [← g.K]; exact F, hl, hk, hb⟩
      obtain rfl := nil_of h5
      refine Say.of g.K h1 (pe_cale0R D (g.calm h3).2 g.tk (chk_ok f g h4).toE ?_)
      cases fe <;> first | rfl | cases h2
    · cases h
  | .blt c bx es => fun g h => by
    simp only [chk] at h
    split at h
    · obtain ⟨h, h8⟩ := and2 h
      obtain ⟨h, h7⟩ := and2 h
      obtain ⟨h, h6⟩ := and2 h
      obtain ⟨h, h5⟩ := and2 h
      obtain ⟨h, h4⟩ := and2 h
      obtain ⟨h1, h2, h3⟩ := and3 h
      have e := of_decide_eq_true h3
      exact Say.of g.K h1 (pe_bltR e h2 g.K (g.calm h5).1 g.un (g.gl h4) (by rw [e]; exact g.bl _ (bl_in h2)) h6 h7 (chk_ok es g h8))
    · cases h
  | .mth mt bx o es => fun g h => by
    simp only [chk] at h
    split at h
    · obtain ⟨h, h8⟩ := and2 h
      obtain ⟨h, h7⟩ := and2 h
      obtain ⟨h, h6⟩ := and2 h
      obtain ⟨h, h5⟩ := and2 h
      obtain ⟨h, h4⟩ := and2 h
      obtain ⟨h1, h2, h3⟩ := and3 h
      exact Say.of g.K h1 (pe_mthR (bx := bx) (of_decide_eq_true h3) h2 g.K g.un (baseB_ok h4 _ _) h5 h6 (chk_ok o g h7).toE (chk_ok es g h8))
    · cases h
  | .frz x => fun g h => by
    simp only [chk] at h
    split at h
    · exact ⟨_, rfl, pe_frzR (chk_ok x g h).toE⟩
    · exact ⟨_, rfl, pi_valR g.K (pe_frzR (chk_ok x g h).toE)⟩
    · cases h
  | .isx o t => fun g h => by
    rename_i m b l X Φ W
    cases o with
    | var i => exact isx_case g h
    | _ =>
      simp only [chk] at h
      cases h
  | .maxd x y => fun g h => by
    simp only [chk] at h
    split at h
    · obtain ⟨h, h8⟩ := and2 h
      obtain ⟨h, h7⟩ := and2 h
      obtain ⟨h, h6⟩ := and2 h
      obtain ⟨h, h5⟩ := and2 h
      obtain ⟨h, h4⟩ := and2 h
      obtain ⟨h1, h2, h3⟩ := and3 h
      cases of_decide_eq_true h2
      cases of_decide_eq_true h3
      exact Say.of g.K h1 (pe_maxdR g.K (g.calm h5).1 g.un (g.gl h4) (g.bl "max" (by decide +kernel)) h6 (chk_ok x g h7).toE (chk_ok y g h8).toE)
    · cases h
  | .cl _ _ _ _ => fun g h => by simp only [chk] at h; cases h
  | .one _ => fun g h => by simp only [chk] at h; cases h
  | .calk f ix es => fun g h => by
    rename_i m b l X Φ W
    simp only [chk] at h
    split at h
    · rename_i x q kw kws p
      obtain ⟨h, h8⟩ := and2 h
      obtain ⟨h, h7⟩ := and2 h
      obtain ⟨h, h6⟩ := and2 h
      obtain ⟨h, h5⟩ := and2 h
      obtain ⟨h, h4⟩ := and2 h
      obtain ⟨h1, h2, h3⟩ := and3 h
      cases hp : T.pm[f]? with
      | none =>
        rw [hp] at h7
        cases h7
      | some ps =>
        rw [hp] at h7
        obtain ⟨fd, np, F, hl, hk, hb⟩ := g.kwd f ps hp
        obtain ⟨q1, q2⟩ := chk_ok es g h8
        obtain ⟨k1, k2, k3⟩ := kw_trees X.env p h6
        refine Say.of g.K h1 (pe_calk0R (by rw [← g.K]; exact F) hl (g.calm h5).2 (g.gl h3) (g.fn _ _ (atB_ok h2)) hk (hb _ _ h7) g.tk (dbg_ok h4) (q1 _ rfl) (fun ρ S l S1 e => ?_) k1 k2 k3)
        rw [q2 _ _ _ _ e, List.length_map]
        exact (kw_len h6).symm
    · cases h
  | .fld o => fun g h => by
    rename_i m b l X Φ W
    cases o with
    | one z =>
      cases z with
      | non =>
        simp only [chk] at h
        split at h
        · exact ⟨_, rfl, ⟨fun pins s σ H Q I ⟨_, _, _, _, _, q⟩ => q.elim⟩⟩
        · exact ⟨_, rfl, ⟨fun pins s σ H Q I ⟨_, _, _, _, _, q⟩ => q.elim⟩, fun o vs p q => ⟨fun w pins s σ H Q I ⟨_, _, _, _, _, q⟩ => q.elim⟩⟩
        · exact ⟨_, rfl, ⟨fun pins s σ H Q I ⟨_, _, _, _, _, q⟩ => q.elim⟩⟩
        · cases h
      | _ =>
        simp only [chk] at h
        cases h
    | _ =>
      simp only [chk] at h
      cases h
end
end Rn
set_option maxHeartbeats 2000007
/-! try with clauses that may have names. -/
namespace Rn
open L2 PySem PyProof.Rows PySem.Spec

/-- one clause: the class that it names, the slot of its name, what its suite comes to -/
structure Cl where
  c : Value
  i : Option Nat
  ts : Addr → Value → Option Addr → TS
/-- a slot forgotten -/
def lose (o : Option Nat) (σ : L2.St) : L2.St := match o with
  | none => σ
  | some i => σ.set i none
def gain (o : Option Nat) (a : Addr) (σ : L2.St) : L2.St := match o with
  | none => σ
  | some i => σ.set i (some (.ref a))
def away (o : Option Nat) (D : Ends) : Ends := ⟨fun σ H => D.nx (lose o σ) H, D.rt, fun σ H => D.bk (lose o σ) H, fun σ H => D.ct (lose o σ) H⟩
/-- what the clauses want of what the body lets out -/
def wants (K : PySem.W.Frag) (Wo : WX) (D : Ends) : List Cl → WX
  | [] => Wo
  | q :: r => fun cls d σ H => ∃ t, PySem.W.exmOne K cls q.c = some t ∧ match t with
    | true => ∀ a, H a = none → q.ts a cls d (away q.i D) (gain q.i a σ) H
    | false => wants K Wo D r cls d σ H
def NameOk (X : Cx) (o : Option Nat) (n : Option Str) : Prop := match o, n with
  | none, none => True
  | some i, some n => X.N[i]? = some n ∧ X.env.kindOf n = some .local
  | _, _ => False
inductive ClsOk (X : Cx) : List ExceptHandler → List Cl → Prop
  | no : ClsOk X [] []
  | one {x : Str} {n : Option Str} {st : Stmt} {sts : List Stmt} {p1 p2 : Pos} {q : Cl} {hs : List ExceptHandler} {l : List Cl} (hx : Names X x q.c) (hn : NameOk X q.i n)
      (su : ∀ (a : Addr) (o : Obj) (cls : Value) (d : Option Addr) (pn : List (Addr × Obj)), Zc cls d o → (∃ vs, o.data = .fields vs) → PSs (X.suite a ((a, o) :: pn)) (st :: sts) (q.ts a cls d)) (more : ClsOk X hs l) :
      ClsOk X (.ExceptHandler (some (.Name x p1)) n (st :: sts) p2 :: hs) (q :: l)

/-- an exception that came down in X's frame; s0 is the state without it -/
structure Down (X : Cx) (pins : List (Addr × Obj)) (σ : L2.St) (H : Hp) (a : Addr) (cls : Value) (d : Option Addr) (B : Heap) (s0 s : Shared) : Prop where
  inv : Inv X pins σ H s0
  base : ∀ b o, s0.heap.get? b = some o → b ∉ frs X.stack → B.get? b = some o
  fly : HandSPX.FlyingZ B (X.env :: X.outer) a (Zc cls d) s.heap
  up : s0.heap.UpToSlots s.heap
  free : H a = none
  os : s.os = s0.os
  bare : AllBare s.gens

section
variable {X : Cx} {pins : List (Addr × Obj)} {σ : L2.St} {H : Hp} {a : Addr} {cls : Value} {d : Option Addr} {B : Heap} {s0 s : Shared}
theorem Down.here (z : Down X pins σ H a cls d B s0 s) : Inv X pins σ H s := z.inv.landed z.base z.fly.1 z.up z.os z.bare
theorem Down.move (z : Down X pins σ H a cls d B s0 s) {h : Heap} (f : HandSPX.FlyingZ B (X.env :: X.outer) a (Zc cls d) h) (u : s.heap.UpToSlots h) : Down X pins σ H a cls d B s0 { s with heap := h } :=
  ⟨z.inv, z.base, f, z.up.trans u, z.free, z.os, z.bare⟩
theorem Down.apart (z : Down X pins σ H a cls d B s0 s) : a ∉ frs (X.env :: X.outer) := fun hm => by
  obtain ⟨o, vs, h1, _, h3⟩ := z.fly.there
  obtain ⟨_, o', h4, h5⟩ := z.fly.2.2.1.mem hm
  rw [h1] at h4
  cases h4
  exact h5 _ h3
theorem Down.suite (z : Down X pins σ H a cls d B s0 s) (hf : X.env.frame = some X.env.locals) : ∃ o, Zc cls d o ∧ (∃ vs, o.data = .fields vs) ∧ s.heap.get? a = some o ∧ Inv (X.suite a ((a, o) :: (X.pn ++ pins))) [] σ H s := by
  obtain ⟨o, vs, h1, h2, h3⟩ := z.fly.there
  have far := z.apart
  refine ⟨o, h2, ⟨vs, h3⟩, h1, z.here.suite h1 h3 z.free (fun e => far ?_) (fun hm => far ?_)⟩
  · exact List.mem_filterMap.mpr ⟨X.env, List.mem_cons_self, by rw [hf, e]⟩
  · obtain ⟨env, q1, q2⟩ := List.mem_filterMap.mp hm
    exact List.mem_filterMap.mpr ⟨env, List.mem_cons_of_mem _ q1, q2⟩
/-- no clause takes it -/
theorem Down.leave {Wo : WX} {pos : Pos} {D : Ends} (z : Down X pins σ H a cls d B s0 s) (hs : X.stack = X.env :: X.outer) (hf : X.env.frame = some X.env.locals) (tk : Takes X Wo) (w : Wo cls d σ H) :
    wpAny (model X.prog X.w) X.A (handleBy (.ref a) X.env []) (SP X pins D) X.xe s := by
  obtain ⟨_, _, _, o, vs, A1, _, _, g1, _, g3, g4, _⟩ := id z.fly
  have onward : wpAny (model X.prog X.w) X.A (setFlight (.ref a) X.env.frame) (fun _ s4 => wpAny (model X.prog X.w) X.A (throw (.ref a) : PySem.Sem Flow) (SP X pins D) X.xe s4) X.xe s := by
    rw [hf]
    refine HandSPX.setFlight_upZ z.fly fun h held u => wpAny_throw (tk _ _ ⟨a, B, s0, pins, σ, H, cls, d, rfl, z.inv, z.base, z.up.trans u, ?_, z.free, z.os, z.bare, w⟩)
    rw [hs]
    exact .inr (.inr held)
  apply wpAny_handleBy_nil
  unfold PySem.passOn
  apply wpAny_bind
  apply wpAny_field g1 g3 g4
  rw [if_neg (by simp : ¬ ((Value.ref A1 == Value.none) = true))]
  first
    | exact wpAny_bind (wpAny_pure (wpAny_bind onward))
    | exact wpAny_bind onward
theorem Down.clauses {Wo : WX} {D : Ends} (hs : X.stack = X.env :: X.outer) (hf : X.env.frame = some X.env.locals) (nd : X.N.Nodup) (tk : Takes X Wo) : ∀ {hds : List ExceptHandler} {l : List Cl} {s : Shared}, ClsOk X hds l → Down X pins σ H a cls d B s0 s → wants X.K Wo D l cls d σ H →
    wpAny (model X.prog X.w) X.A (handleBy (.ref a) X.env hds) (SP X pins D) X.xe s := fun {hds l s} ok => by
  induction ok generalizing s with
  | no => exact fun z w => z.leave (pos := ⟨0, 0, 0, 0⟩) hs hf tk w
  | @one x n st sts p1 p2 q hds l hx hn su more ih =>
    intro z w
    obtain ⟨t, e, w⟩ := w
    obtain ⟨o, zo, fo, go, I⟩ := z.suite hf
    have cl : PySem.W.Looks (model X.prog X.w) s.heap (typeOf (.ref a)) cls := fun _ _ _ _ k q => wpAny_typeOf_ref (k _ _ go) (by rw [zo.1]; exact q)
    have asked := PySem.W.exm_one (M := model X.prog X.w) z.here.kIn cl e
    apply wpAny_handleBy_cons _ (fun q => by cases q)
    apply codeAny_handlers_test
    have name : ∀ {Q E : Value → Shared → Prop}, Q q.c s → wpAny (model X.prog X.w) (X.A.mark (some (.ref a))) (eval (.Name x p1) X.env) Q E s := fun {Q E} k => by
      obtain ⟨x1, x2, x3⟩ := hx
      rcases x3 with x3 | ⟨x3, x4, x5⟩
      · exact ld_glob I x1 x3 k x2
      · exact ld_blt I x1 x3 x4 k x5 x2
    refine name (asked.here ?_)
    cases t with
    | false => exact ih z w
    | true =>
      have again : ∀ {Q : Unit → Shared → Prop} {E : Value → Shared → Prop} {A : Around}, (∀ s', Down X pins σ H a cls d B s0 s' → Q () s') → wpAny (model X.prog X.w) A (setFlight (.ref a) none) Q E s := fun k =>
        HandSPX.lands_againZ z.fly fun h f u => k _ (z.move f u)
      have w := w a z.free
      cases n with
      | none =>
        cases hi : q.i with
        | some i =>
          rw [hi] at hn
          exact hn.elim
        | none =>
          rw [hi] at w
          apply codeAny_handlers_suite
          refine again fun s' z' => ?_
          obtain ⟨o', zo', fo', go', I'⟩ := z'.suite hf
          refine wpAny_mono ((su a o' cls d (X.pn ++ pins) zo' fo').run [] _ _ H _ I' w) (fun f s6 k => ?_) (fun _ _ no => no.elim)
          cases f with
          | ret u =>
            obtain ⟨v, σ6, H6, I6, r6, q6⟩ := k
            exact ⟨v, σ6, H6, I6.unsuite z.inv.ok, r6, q6⟩
          | _ =>
            obtain ⟨σ6, H6, I6, q6⟩ := k
            exact ⟨σ6, H6, I6.unsuite z.inv.ok, q6⟩
      | some n =>
        cases hi : q.i with
        | none =>
          rw [hi] at hn
          exact hn.elim
        | some i =>
          rw [hi] at hn w
          obtain ⟨n1, n2⟩ := hn
          apply codeAny_handlers_suite_as
          refine again fun s' z' => ?_
          obtain ⟨o', zo', fo', go', I'⟩ := z'.suite hf
          refine store_ok (X := X.suite a ((a, o') :: (X.pn ++ pins))) (v := .ref a) I' nd n1 (Or.inl n2) rfl (fun s5 I5 => ?_) (.inr n2)
          refine wpAny_mono ((su a o' cls d (X.pn ++ pins) zo' fo').run [] s5 _ H _ I5 w) (fun f s6 k => ?_) (fun _ _ no => no.elim)
          cases f with
          | ret u =>
            obtain ⟨v, σ6, H6, I6, r6, q6⟩ := k
            exact gone_ok (I6.unsuite z.inv.ok) nd n1 n2 fun s7 I7 => ⟨v, _, _, I7, r6, q6⟩
          | next =>
            obtain ⟨σ6, H6, I6, q6⟩ := k
            exact gone_ok (I6.unsuite z.inv.ok) nd n1 n2 fun s7 I7 => ⟨_, _, I7, q6⟩
          | brk =>
            obtain ⟨σ6, H6, I6, q6⟩ := k
            exact gone_ok (I6.unsuite z.inv.ok) nd n1 n2 fun s7 I7 => ⟨_, _, I7, q6⟩
          | cont =>
            obtain ⟨σ6, H6, I6, q6⟩ := k
            exact gone_ok (I6.unsuite z.inv.ok) nd n1 n2 fun s7 I7 => ⟨_, _, I7, q6⟩
end

/-- a try whose body is right whatever it is to let out -/
theorem ps_tryN {X : Cx} {body : List Stmt} {h0 : ExceptHandler} {hds : List ExceptHandler} {l : List Cl} {pos : Pos} {tb : WX → TS} {Wo : WX} (hs : X.stack = X.env :: X.outer) (hf : X.env.frame = some X.env.locals) (nd : X.N.Nodup) (tk : Takes X Wo)
    (hb : ∀ (W : WX) (pn : List (Addr × Obj)) (xe : Value → Shared → Prop), Takes (X.tr pn xe) W → PassesOwn (model X.prog X.w) X.A X.env xe → PSs (X.tr pn xe) body (tb W)) (hh : ClsOk X (h0 :: hds) l) :
    PS X (.Try body (h0 :: hds) [] [] pos) (fun D σ H => tb (wants X.K Wo D l) D σ H) := by
  constructor
  intro pins s σ H D I h
  have ok := I.ok
  have frames : X.A.frames = some (X.env :: X.outer) := hs ▸ ok.frames
  let out : Value → Shared → Prop := fun e s1 => wpAny (model X.prog X.w) X.A (noteFrame e X.env) (fun _ s2 => wpAny (model X.prog X.w) X.A (setFlight e none) (fun _ s3 =>
    wpAny (model X.prog X.w) X.A (handleBy e X.env (h0 :: hds)) (SP X pins D) X.xe s3) X.xe s2) X.xe s1
  have caught : Takes (X.tr (X.pn ++ pins) out) (wants X.K Wo D l) := fun u s1 x => by
    obtain ⟨a, B, s0, pins', σ1, H1, cls, d, rfl, I1, nb, up, sky, na, os, ag, w⟩ := x
    show wpAny (model X.prog X.w) X.A
          (noteFrame (.ref a) X.env) _ _ _
    have sky : Sky B (X.env :: X.outer) a (Zc cls d) X.env.locals s1.heap := hs ▸ sky
    exact Sky.land Zc.steady frames hf sky fun h3 f3 u3 => Down.clauses hs hf nd tk hh ⟨I1.ofTry ok, nb, f3, up.trans u3, na, os, ag⟩ w
  apply wpAny_Try_except
  refine wpAny_mono ((hb _ (X.pn ++ pins) out caught PassesOwn.looking).run [] s σ H D (I.toTry _) h) (fun f s1 k => ?_) (fun _ _ he => he)
  cases f with
  | ret u =>
    obtain ⟨v, σ1, H1, I1, r, q⟩ := k
    exact ⟨v, σ1, H1, I1.ofTry ok, r, q⟩
  | next =>
    obtain ⟨σ1, H1, I1, q⟩ := k
    exact wpAny_execs_nil ⟨σ1, H1, I1.ofTry ok, q⟩
  | brk =>
    obtain ⟨σ1, H1, I1, q⟩ := k
    exact ⟨σ1, H1, I1.ofTry ok, q⟩
  | cont =>
    obtain ⟨σ1, H1, I1, q⟩ := k
    exact ⟨σ1, H1, I1.ofTry ok, q⟩
end Rn
set_option maxHeartbeats 2000007
/-! The look at statements. -/
namespace Rn
open L2 PySem PyProof.Rows PySem.Spec

/-- a statement, several, the clauses of a try -/
inductive Ms | one | many | hnd
def isLc1 : Ex → Bool
  | .lc _ _ (.cl _ _ _ (.one _)) => true
  | _ => false
section
variable (T : Tx)
def asgB (t : Tg) (e : Ex) (b : Bk) (tg x : Expr) : Bool :=
  if swB b.sc tg x then (match t, tg with
    | .nm i, .Name y _ => isLc1 e && atB b.N i y && chk T e .e b [x]
    | _, _ => false)
  else match swp b.sc tg x with
    | some none => plainE tg && chkG t false b [tg] && chk T e .e b [x]
    | some (some ns) => (match t, tg, x, e with
      | .tup (.cons (.nm i) (.cons (.nm j) .nil)), .Tuple [.Name y _, .Name z _] _ _, .Tuple [u, v] _ _, .tup es =>
        b.calm && atB b.N i y && atB b.N j z && !(Nat.beq i j) && isKd b.sc y .local && isKd b.sc z .local && decide (ns = [y, z]) && chk T es .a b [u, v]
      | .tup (.cons (.nm i) (.cons (.nm j) (.cons (.nm k) .nil))), .Tuple [.Name y _, .Name z _, .Name w _] _ _, .Tuple [u, v, q] _ _, .tup es =>
        b.calm && atB b.N i y && atB b.N j z && atB b.N k w && !(Nat.beq i j) && !(Nat.beq i k) && !(Nat.beq j k) && isKd b.sc y .local && isKd b.sc z .local && isKd b.sc w .local && decide (ns = [y, z, w]) && chk T es .a b [u, v, q]
      | _, _, _, _ => false)
    | none => false
def chkS : Sm → Ms → Bk → List Stmt → List ExceptHandler → Bool
  | .nil => fun m b ss hs => match m, ss, hs with
    | .many, [], [] => true
    | .hnd, [], [] => true
    | _, _, _ => false
  | .seq s r => fun m b ss hs => match m, hs with
    | .many, [] => (match s with
      | .frz _ => chkS r .many b ss []
      | _ => match ss with
        | st :: sts => chkS s .one b [st] [] && chkS r .many b sts []
        | [] => false)
    | _, _ => false
  | .asg t e => fun m b ss hs => match m, ss with
    | .one, [.Assign [tg] x p] => asgB T t e b tg x
    | _, _ => false
  | .sub o i e => fun m b ss hs => match m, ss with
    | .one, [.Assign [.Subscript ob ix q] x p] => plainE ix && chk T e .e b [x] && chk T o .e b [ob] && chk T i .e b [ix]
    | _, _ => false
  | .aug n o e => fun m b ss hs => match m, ss with
    | .one, [.AugAssign (.Name y q) op x p] => boB o op && (opI o).isSome && atB b.N n y && locB b.sc y && (fnB b y || isKd b.sc y .local) && chk T e .e b [x]
    | _, _ => false
  | .augs a i o e => fun m b ss hs => match m, ss with
    | .one, [.AugAssign (.Subscript ob ix q) op x p] => boB o op && (opI o).isSome && plainE ix && chk T a .e b [ob] && chk T i .e b [ix] && chk T e .e b [x]
    | _, _ => false
  | .app o e => fun m b ss hs => match m, ss with
    | .one, [.Expr (.Call (.Attribute ob nm ap) [u] [] cp) p] => decide (nm = "append") && baseB ob && (ap.endLine == cp.line) && plainE u && chk T o .e b [ob] && chk T e .e b [u]
    | _, _ => false
  | .pop o => fun m b ss hs => match m, ss with
    | .one, [.Expr (.Call (.Attribute ob nm ap) [] [] cp) p] => decide (nm = "pop") && baseB ob && (ap.endLine == cp.line) && chk T o .e b [ob]
    | _, _ => false
  | .ex e => fun m b ss hs => match m, ss with
    | .one, [.Expr x p] => !isComp x && chk T e .e b [x]
    | _, _ => false
  | .ife c s r => fun m b ss hs => match m, ss with
    | .one, [.If q as bs p] => chk T c .t b [q] && chkS s .many b as [] && chkS r .many b bs []
    | _, _ => false
  | .for t it s => fun m b ss hs => match m, ss with
    | .one, [.For tg iter body [] p] => b.calm && plainE iter && chk T it (.i (isTupT t) tg) b [iter] && chkG t false b [tg] && chkS s .many b body []
    | _, _ => false
  | .whl c s => fun m b ss hs => match m, ss with
    | .one, [.While q body [] p] => chk T c .t b [q] && chkS s .many b body []
    | _, _ => false
  | .ret e => fun m b ss hs => match m, ss with
    | .one, [.Return (some x) p] => chk T e .e b [x]
    | _, _ => false
  | .retN => fun m b ss hs => match m, ss with
    | .one, [.Return none p] => true
    | _, _ => false
  | .brk => fun m b ss hs => match m, ss with
    | .one, [.Break p] => true
    | _, _ => false
  | .cnt => fun m b ss hs => match m, ss with
    | .one, [.Continue p] => true
    | _, _ => false
  | .pas => fun m b ss hs => match m, ss with
    | .one, [.Pass p] => true
    | _, _ => false
  | .rai c .nil => fun m b ss hs => match m, ss with
    | .one, [.Raise (some (.Call (.Name x q) [] [] r)) none p] => b.calm && atB T.cl c x && T.c0.contains c && glB b.sc x && dbgB x
    | _, _ => false
  | .try s h => fun m b ss hs => match m, ss with
    | .one, [.Try body (h0 :: hds) [] [] p] => b.top && b.calm && chkS s .many b body [] && chkS h .hnd b [] (h0 :: hds)
    | _, _ => false
  | .hnd c n s r => fun m b ss hs => match m, hs with
    | .hnd, .ExceptHandler (some (.Name x q)) nm (st :: sts) p :: hds => atB T.cl c x && glB b.sc x && dbgB x && (match n, nm with
        | none, none => chkS s .many (b.suite none) (st :: sts) []
        | some i, some y => atB b.N i y && isKd b.sc y .local && chkS s .many (b.suite (some c)) (st :: sts) []
        | _, _ => false) && chkS r .hnd b [] hds
    | .one, _ => (match ss with
      | [_] => true
      | _ => false)
    | _, _ => false
  | _ => fun _ _ _ _ => false
end
end Rn
set_option maxHeartbeats 4000007
/-! The look tells the truth: statements. -/
namespace Rn
open L2 PySem PyProof.Rows PySem.Spec

/-! ### another word of exceptions, where none is held -/
def Fm.xs (Φ : Fm) (R : Nat → V → Prop) : Fm := { Φ with Xr := R }
section
variable {Φ : Fm} {m : Mp} {H : Hp} {S : Sto} {ρ : Env} {σ : L2.St} {R : Nat → V → Prop}
mutual
theorem RelP.xs : ∀ {p : PV} {v : V}, p.nox = true → RelP Φ m H p v → RelP (Φ.xs R) m H p v
  | .non, _, _, h => by simpa only [RelP] using h
  | .bl _, _, _, h => by simpa only [RelP] using h
  | .int _, _, _, h => by simpa only [RelP] using h
  | .str _, _, _, h => by simpa only [RelP] using h
  | .fn _, _, _, h => by
    simp only [RelP] at h ⊢
    exact h
  | .ty _, _, _, h => by simpa only [RelP] using h
  | .xc _ _, _, n, _ => by simp [PV.nox] at n
  | .box n, v, _, h => by
    simp only [RelP] at h ⊢
    exact h
  | .tup l, v, n, h => by
    simp only [RelP] at h ⊢
    obtain ⟨a, xs, h1, h2, h3⟩ := h
    exact ⟨a, xs, h1, h2, RelPs.xs (by simpa only [PV.nox] using n) h3⟩
  | .lst l, v, n, h => by
    simp only [RelP] at h ⊢
    obtain ⟨a, xs, h1, h2, h3⟩ := h
    exact ⟨a, xs, h1, h2, RelPs.xs (by simpa only [PV.nox] using n) h3⟩
  | .klst l, v, n, h => by
    simp only [RelP] at h ⊢
    obtain ⟨a, xs, h1, h2, h3⟩ := h
    exact ⟨a, xs, h1, h2, RelPs.xs (by simpa only [PV.nox] using n) h3⟩
theorem RelPs.xs : ∀ {ps : List PV} {vs : List V}, PV.noxs ps = true → RelPs Φ m H ps vs → RelPs (Φ.xs R) m H ps vs
  | [], _, _, h => by simpa only [RelPs] using h
  | p :: ps, vs, n, h => by
    simp only [RelPs] at h ⊢
    obtain ⟨v, vr, h1, h2, h3⟩ := h
    have n : (p.nox && PV.noxs ps) = true := by simpa only [PV.noxs] using n
    exact ⟨v, vr, h1, RelP.xs (and2 n).1 h2, RelPs.xs (and2 n).2 h3⟩
end
theorem noxS_at : ∀ {S : Sto} {n : Nat} {l : List PV}, noxS S = true → S[n]? = some (some l) → PV.noxs l = true
  | [], n, l, _, e => by simp at e
  | some k :: r, 0, l, h, e => by
    have e : k = l := by simpa using e
    subst e
    exact (and2 (show (PV.noxs k && noxS r) = true from h)).1
  | none :: r, 0, l, h, e => by simp at e
  | some k :: r, n + 1, l, h, e => noxS_at (n := n) (and2 (show (PV.noxs k && noxS r) = true from h)).2 (by simpa using e)
  | none :: r, n + 1, l, h, e => noxS_at (n := n) (show noxS r = true from h) (by simpa using e)
theorem noxE_at : ∀ {ρ : Env} {i : Nat} {p : PV}, noxE ρ = true → ρ[i]? = some (some p) → p.nox = true
  | [], n, l, _, e => by simp at e
  | some k :: r, 0, l, h, e => by
    have e : k = l := by simpa using e
    subst e
    exact (and2 (show (k.nox && noxE r) = true from h)).1
  | none :: r, 0, l, h, e => by simp at e
  | some k :: r, n + 1, l, h, e => noxE_at (i := n) (and2 (show (k.nox && noxE r) = true from h)).2 (by simpa using e)
  | none :: r, n + 1, l, h, e => noxE_at (i := n) (show noxE r = true from h) (by simpa using e)
theorem RelS.xs (s : RelS Φ m S H) (h : noxS S = true) : RelS (Φ.xs R) m S H where
  len := s.len
  at_ := fun n a e => by
    obtain ⟨xs, vs, h1, h2, h3, h4⟩ := s.at_ n a e
    exact ⟨xs, vs, h1, h2, RelPs.xs (noxS_at h h1) h3, h4⟩
  dead := s.dead
  inj := s.inj
  bo := s.bo
theorem RelE.xs (e : RelE Φ m H ρ σ) (h : noxE ρ = true) : RelE (Φ.xs R) m H ρ σ := ⟨e.1, fun i p q => by
  obtain ⟨v, h1, h2⟩ := e.2 i p q
  exact ⟨v, h1, RelP.xs (noxE_at h q) h2⟩⟩
theorem RelE.gone (e : RelE Φ m H ρ σ) (i : Nat) : RelE Φ m H (ρ.set i none) (σ.set i none) := ⟨by rw [List.length_set, List.length_set, e.1], fun j p q => by
  by_cases hj : i = j
  · subst hj
    by_cases hl : i < ρ.length
    · rw [List.getElem?_set_self hl] at q
      cases q
    · rw [List.getElem?_eq_none (by rw [List.length_set]; exact Nat.le_of_not_lt hl)] at q
      cases q
  · rw [List.getElem?_set_ne hj] at q
    obtain ⟨v, h1, h2⟩ := e.2 j p q
    exact ⟨v, by rw [List.getElem?_set_ne hj]; exact h1, h2⟩⟩
end

section
variable {T : Tx} {cons : Nat → Option PV} {isx : Nat → String → Bool} {call : Nat → List PV → Sto → R PV} {k nb wf : Nat}
/-- into a try's body -/
theorem Good.tr {b : Bk} {X : Cx} {Φ : Fm} {W W' : WX} (g : Good T cons isx call k b X Φ W) {pn : List (Addr × Obj)} {xe : Value → Shared → Prop} (tk : Takes (X.tr pn xe) W') (po : PassesOwn (model X.prog X.w) X.A X.env xe) (he : b.exc = none) : Good T cons isx call k b (X.tr pn xe) Φ W' where
  K := g.K
  N := g.N
  sc := g.sc
  nd := g.nd
  fnm := g.fnm
  un := g.un
  tk := tk
  po := po
  calm := g.calm
  stk := g.stk
  fn := g.fn
  cn := g.cn
  cl := g.cl
  bl := g.bl
  defs := g.defs
  kwd := g.kwd
  rai := g.rai
  exm := g.exm
  xis := g.xis
  exc := fun c h => by rw [he] at h; cases h
/-- into an except suite -/
theorem Good.suite {b : Bk} {X : Cx} {Φ : Fm} {W : WX} (g : Good T cons isx call k b X Φ W) (a : Addr) (pn : List (Addr × Obj)) : Good T cons isx call k (b.suite none) (X.suite a pn) Φ WF where
  K := g.K
  N := g.N
  sc := g.sc
  nd := g.nd
  fnm := g.fnm
  un := g.un
  tk := takes0
  po := PassesOwn.never
  calm := fun h => nomatch h
  stk := fun h => nomatch h
  fn := g.fn
  cn := g.cn
  cl := g.cl
  bl := g.bl
  defs := g.defs
  kwd := g.kwd
  rai := g.rai
  exm := g.exm
  xis := g.xis
  exc := fun c h => nomatch h
/-- the exception that the suite holds: which class it is of, where it lies -/
def heldAt (c : Nat) (a : Addr) : Nat → V → Prop := fun c' v => c' = c ∧ v = .ref a
theorem Good.suiteAs {b : Bk} {X : Cx} {Φ : Fm} {W : WX} (g : Good T cons isx call k b X Φ W) {c : Nat} {x : Str} (hc : T.cl[c]? = some x) (a : Addr) (o : Obj) (pn : List (Addr × Obj)) (hz : Zc (.ref (Φ.A.ca c)) none o) (hf : ∃ vs, o.data = .fields vs) :
    Good T cons isx call k (b.suite (some c)) (X.suite a ((a, o) :: pn)) (Φ.xs (heldAt c a)) WF where
  K := g.K
  N := g.N
  sc := g.sc
  nd := g.nd
  fnm := g.fnm
  un := g.un
  tk := takes0
  po := PassesOwn.never
  calm := fun h => nomatch h
  stk := fun h => nomatch h
  fn := g.fn
  cn := g.cn
  cl := g.cl
  bl := g.bl
  defs := g.defs
  kwd := g.kwd
  rai := g.rai
  exm := g.exm
  xis := g.xis
  exc := fun c' h => by
    have h : some c = some c' := h
    cases h
    refine ⟨fun c' v z => z.1, fun t ht => ?_⟩
    obtain ⟨x1, x2⟩ := g.xis c x hc
    intro pins s σ H xs us Q I r ⟨y, e, z, q⟩
    obtain ⟨_, z⟩ := z
    subst z
    exact call_isE x1 hz hf pins s σ H xs us Q I r ⟨.ty t, .type t, _, e, fun u ru => ru, x2 t ht, q⟩

/-- what the look promises of statements -/
def GoalS (T : Tx) (cons : Nat → Option PV) (isx : Nat → String → Bool) (call : Nat → List PV → Sto → R PV) (k nb wf : Nat) (x : Sm) : Prop :=
  ∀ {b : Bk} {X : Cx} {Φ : Fm} {W : WX}, Good T cons isx call k b X Φ W → b.exc = none ∨ b.top = false →
    (∀ ss hs, chkS T x .one b ss hs = true → ∃ st, ss = [st] ∧ PS X st (tS Φ W (sx call cons isx nb wf x))) ∧
    (∀ ss, chkS T x .many b ss [] = true → PSs X ss (tS Φ W (sx call cons isx nb wf x))) ∧
    (∀ hs, chkS T x .hnd b [] hs = true → ∃ l, ClsOk X hs l ∧ ∀ {xc : Xc} {D : Ends} {cls : Value} {d : Option Addr} {m : Mp} {H : Hp} {S : Sto} {ρ : Env} {σ : L2.St}, RelS Φ m S H → RelX Φ m H xc cls d → RelE Φ m H ρ σ →
      PostS Φ W m H (hx call cons isx nb wf x xc ρ S) D → wants X.K W D l cls d σ H)
theorem no_h {P : Prop} (h : false = true) : P := by cases h
theorem PSs.hyp {X : Cx} {ss : List Stmt} {t : TS} {P : Prop} (h : P → PSs X ss t) : PSs X ss (fun D σ H => P ∧ t D σ H) := ⟨fun pins s σ H D I q => (h q.1).run pins s σ H D I q.2⟩
theorem sub_sw {o i x : Expr} {q : Pos} {l : Nat} {env : PySem.Env} : swapsWithSole [.Subscript o i q] x l env = pure false ∧ swappedStores [.Subscript o i q] x env = pure none := by
  cases x <;> exact ⟨rfl, rfl⟩
theorem sub_asg {o i : Expr} {q : Pos} {env : PySem.Env} (h : plainE i = true) (v : Value) : assign (.Subscript o i q) env v = (do
      let ov ← holding
            [v] (eval o env)
      let iv ← holding [v,
            ov] (eval i env)
      standAt q
      holding [v, ov,
            iv] (setItem ov iv v)
      release [v, ov, iv] []) := by
  cases i <;> first | rfl | (simp [plainE] at h)
theorem aug_st {i : Expr} (h : plainE i = true) (ov iv new : Value) : augStore i ov iv new = (do holding [new, ov, iv] (setItem ov iv new); release [new, ov, iv] []; pure .next) := by
  cases i <;> first | rfl | (simp [plainE] at h)
theorem not_beq {i j : Nat} (h : (!(Nat.beq i j)) = true) : i ≠ j := fun e => by
  subst e
  rw [Nat.beq_refl] at h
  cases h

theorem asg_ok {b : Bk} {X : Cx} {Φ : Fm} {W : WX} (g : Good T cons isx call k b X Φ W) {t : Tg} {e : Ex} {tg x : Expr} {p : Pos} (h : asgB T t e b tg x = true) :
    PS X (.Assign [tg] x p) (tS Φ W (sx call cons isx nb wf (.asg t e))) := by
  have up : ∀ {f : RunS}, PS X (.Assign [tg] x p) (tS Φ W f) → f = sx call cons isx nb wf (.asg t e) → PS X (.Assign [tg] x p) (tS Φ W (sx call cons isx nb wf (.asg t e))) := fun a q => q ▸ a
  unfold asgB at h
  split at h
  · rename_i sw
    split at h
    · rename_i i y py
      obtain ⟨h1, h2, h3⟩ := and3 h
      cases e with
      | lc bx own c =>
        cases c with
        | cl t' it cond r =>
          cases r with
          | one elt =>
            simp only [chk] at h3
            split at h3
            · rename_i z tgt iter ifs scope px eq
              cases eq
              obtain ⟨h3, p9⟩ := and2 h3
              obtain ⟨h3, p8⟩ := and2 h3
              obtain ⟨h3, p7⟩ := and2 h3
              obtain ⟨h3, p6⟩ := and2 h3
              obtain ⟨h3, p5⟩ := and2 h3
              obtain ⟨h3, p4⟩ := and2 h3
              obtain ⟨p1, p2, p3⟩ := and3 h3
              obtain ⟨hi, ok, hg, ht, he, hs, ho⟩ := lc_ok (chk_ok it) (chk_ok cond) (chk_ok elt) g (Bool.and_eq_true_iff.mpr ⟨Bool.and_eq_true_iff.mpr ⟨Bool.and_eq_true_iff.mpr ⟨Bool.and_eq_true_iff.mpr ⟨Bool.and_eq_true_iff.mpr ⟨Bool.and_eq_true_iff.mpr ⟨p3, p4⟩, p5⟩, p6⟩, p7⟩, p8⟩, p9⟩)
              rw [← g.sc] at sw
              obtain ⟨w1, w2⟩ := swB_yes (l := p.line) sw
              have q := ps_setLcR (bx := bx) (g.calm p2).1 g.nd (g.at_ h2) w2 w1 hi ok hg ht he hs ho
              rw [ownP_snd] at q
              exact q
            · cases h3
          | _ => cases h1
        | _ => cases h1
      | _ => cases h1
    · cases h
  · rename_i sw
    have sw : swB X.env.scope tg x = false := by
      rw [g.sc]
      exact Bool.eq_false_iff.mpr sw
    have s1 := swB_no (l := p.line) sw
    split at h
    · rename_i e2
      obtain ⟨h1, h2, h3⟩ := and3 h
      obtain ⟨tg', q, p1, p2⟩ := chkG_ok g t h2
      cases q
      refine ps_asgR (chk_ok e g h3).toE p1 s1 (swp_ok (by rw [g.sc]; exact e2)) ?_
      rw [asg_each h1]
      rfl
    · rename_i ns e2
      have s2 := swp_ok (env := X.env) (by rw [g.sc]; exact e2)
      have loc : ∀ {x : Str}, isKd b.sc x .local = true → X.env.scope.names.lookup x = some .local := fun h => by
        rw [g.sc]
        exact isKd_ok h
      split at h
      · obtain ⟨h, h8⟩ := and2 h
        obtain ⟨h, h7⟩ := and2 h
        obtain ⟨h, h6⟩ := and2 h
        obtain ⟨h, h5⟩ := and2 h
        obtain ⟨h, h4⟩ := and2 h
        obtain ⟨h1, h2, h3⟩ := and3 h
        cases of_decide_eq_true h7
        exact ps_parR (g.calm h1).1 g.nd (g.at_ h2) (g.at_ h3) (not_beq h4) (loc h5) (loc h6) (chk_ok _ g h8) s2 s1
      · obtain ⟨h, h12⟩ := and2 h
        obtain ⟨h, h11⟩ := and2 h
        obtain ⟨h, h10⟩ := and2 h
        obtain ⟨h, h9⟩ := and2 h
        obtain ⟨h, h8⟩ := and2 h
        obtain ⟨h, h7⟩ := and2 h
        obtain ⟨h, h6⟩ := and2 h
        obtain ⟨h, h5⟩ := and2 h
        obtain ⟨h, h4⟩ := and2 h
        obtain ⟨h1, h2, h3⟩ := and3 h
        cases of_decide_eq_true h11
        exact ps_par3R (g.calm h1).1 g.nd (g.at_ h2) (g.at_ h3) (g.at_ h4) (not_beq h5) (not_beq h6) (not_beq h7) (loc h8) (loc h9) (loc h10) (chk_ok _ g h12) s2 s1
      · cases h
    · cases h
end
end Rn
set_option maxHeartbeats 4000007
/-! The look tells the truth: all statements. -/
namespace Rn
open L2 PySem PyProof.Rows PySem.Spec

section
variable {T : Tx} {cons : Nat → Option PV} {isx : Nat → String → Bool} {call : Nat → List PV → Sto → R PV} {k nb wf : Nat}
/-- a statement that stands alone -/
theorem GoalS.of1 {x : Sm} (h : ∀ {b : Bk} {X : Cx} {Φ : Fm} {W : WX}, Good T cons isx call k b X Φ W → b.exc = none ∨ b.top = false → ∀ ss hs, chkS T x .one b ss hs = true → ∃ st, ss = [st] ∧ PS X st (tS Φ W (sx call cons isx nb wf x)))
    (h2 : ∀ b ss, chkS T x .many b ss [] = false) (h3 : ∀ b hs, chkS T x .hnd b [] hs = false) : GoalS T cons isx call k nb wf x := fun g o =>
  ⟨h g o, fun ss c => no_h ((h2 _ ss).symm.trans c), fun hs c => no_h ((h3 _ hs).symm.trans c)⟩
/-- the body of a try, then its clauses -/
theorem try_key {Φ : Fm} {W : WX} {K : PySem.W.Frag} {l : List Cl} {f : RunS} {gh : Xc → Env → Sto → F} {D : Ends} {σ : L2.St} {H : Hp}
    (hh : ∀ {xc : Xc} {cls : Value} {d : Option Addr} {m : Mp} {H : Hp} {S : Sto} {ρ : Env} {σ : L2.St}, RelS Φ m S H → RelX Φ m H xc cls d → RelE Φ m H ρ σ → PostS Φ W m H (gh xc ρ S) D → wants K W D l cls d σ H)
    (h : tS Φ W (fun ρ S => match f ρ S with
      | .ex c ρ1 S1 => gh c ρ1 S1
      | f => f) D σ H) : tS Φ (wants K W D l) f D σ H := by
  obtain ⟨m, ρ, S, s, e, h⟩ := h
  refine ⟨m, ρ, S, s, e, ?_⟩
  dsimp only at h
  cases hr : f ρ S with
  | ex c ρ1 S1 =>
    rw [hr] at h
    exact fun cls d m1 H1 σ1 e1 s1 x1 E1 => hh s1 x1 E1 (PostS.ext e1 h)
  | nx _ _ =>
    rw [hr] at h
    exact h
  | bk _ _ =>
    rw [hr] at h
    exact h
  | ct _ _ =>
    rw [hr] at h
    exact h
  | rt _ _ =>
    rw [hr] at h
    exact h
  | no =>
    rw [hr] at h
    exact h
theorem isSome_of {α : Type} {o : Option α} (h : o.isSome = true) : ∃ a, o = some a := Option.isSome_iff_exists.mp h
/-- a clause without a name -/
theorem bare_key {Φ : Fm} {W : WX} {m : Mp} {H : Hp} {S : Sto} {ρ : Env} {σ : L2.St} {f : RunS} {D : Ends} (s : RelS Φ m S H) (e : RelE Φ m H ρ σ) (h : PostS Φ W m H (match f ρ S with
      | .ex _ _ _ => .no
      | f => f) D) : tS Φ WF f (away none D) σ H := by
  refine ⟨m, ρ, S, s, e, ?_⟩
  cases hr : f ρ S with
  | ex c ρ1 S1 =>
    rw [hr] at h
    exact h.elim
  | nx _ _ =>
    rw [hr] at h
    exact h
  | bk _ _ =>
    rw [hr] at h
    exact h
  | ct _ _ =>
    rw [hr] at h
    exact h
  | rt _ _ =>
    rw [hr] at h
    exact h
  | no =>
    rw [hr] at h
    exact h
/-- a clause with a name -/
theorem named_key {Φ : Fm} {W : WX} {m : Mp} {H : Hp} {S : Sto} {ρ : Env} {σ : L2.St} {f : RunS} {D : Ends} {i c : Nat} {a : Addr} {args : List PV} (s : RelS Φ m S H) (e : RelE Φ m H ρ σ) (n : (noxE ρ && noxS S) = true)
    (h : PostS Φ W m H (match f (ρ.set i (some (.xc c args))) S with
      | .nx ρ1 S1 => if noxE (ρ1.set i none) && noxS S1 then .nx (ρ1.set i none) S1 else .no
      | .rt v S1 => if v.nox && noxS S1 then .rt v S1 else .no
      | _ => .no) D) : tS (Φ.xs (heldAt c a)) WF f (away (some i) D) (σ.set i (some (.ref a))) H := by
  obtain ⟨n1, n2⟩ := and2 n
  refine ⟨m, ρ.set i (some (.xc c args)), S, s.xs n2, (e.xs n1).set (by
    simp only [RelP]
    exact ⟨rfl, rfl⟩), ?_⟩
  cases hr : f (ρ.set i (some (.xc c args))) S with
  | ex c ρ1 S1 =>
    rw [hr] at h
    exact h.elim
  | bk _ _ =>
    rw [hr] at h
    exact h.elim
  | ct _ _ =>
    rw [hr] at h
    exact h.elim
  | no =>
    rw [hr] at h
    exact h.elim
  | nx ρ1 S1 =>
    rw [hr] at h
    have h : PostS Φ W m H (if noxE (ρ1.set i none) && noxS S1 then .nx (ρ1.set i none) S1 else .no) D := h
    split at h
    · rename_i q
      obtain ⟨q1, q2⟩ := and2 q
      exact fun m1 H1 σ1 e1 s1 E1 => h m1 H1 _ e1 (RelS.xs (Φ := Φ.xs (heldAt c a)) (R := Φ.Xr) s1 q2) (RelE.xs (Φ := Φ.xs (heldAt c a)) (R := Φ.Xr) (E1.gone i) q1)
    · exact h.elim
  | rt v S1 =>
    rw [hr] at h
    have h : PostS Φ W m H (if v.nox && noxS S1 then .rt v S1 else .no) D := h
    split at h
    · rename_i q
      obtain ⟨q1, q2⟩ := and2 q
      exact fun m1 H1 w e1 s1 r1 => h m1 H1 _ e1 (RelS.xs (Φ := Φ.xs (heldAt c a)) (R := Φ.Xr) s1 q2) (RelP.xs (Φ := Φ.xs (heldAt c a)) (R := Φ.Xr) q1 r1)
    · exact h.elim

theorem chkS_ok : ∀ x : Sm, GoalS T cons isx call k nb wf x
  | .nil => fun g o => ⟨fun ss hs h => by
      simp only [chkS] at h
      exact no_h h, fun ss h => by
      simp only [chkS] at h
      split at h
      · exact pss_nilR
      · rename_i q _
        cases q
      · exact no_h h, fun hs h => by
      simp only [chkS] at h
      split at h
      · rename_i q _
        cases q
      · exact ⟨[], .no, fun s x e h => h _ _ _ _ _ Ext.refl s x e⟩
      · exact no_h h⟩
  | .seq s r => fun g o => ⟨fun ss hs h => by
      simp only [chkS] at h
      exact no_h h, fun ss h => by
      simp only [chkS] at h
      split at h
      · exact pss_frzR ((chkS_ok r g o).2.1 ss h)
      · split at h
        · obtain ⟨h1, h2⟩ := and2 h
          obtain ⟨st, q, p⟩ := (chkS_ok s g o).1 _ _ h1
          cases q
          exact pss_consR p ((chkS_ok r g o).2.1 _ h2)
        · exact no_h h, fun hs h => by
      simp only [chkS] at h
      exact no_h h⟩
  | .asg t e => GoalS.of1 (fun g o ss hs h => by
      simp only [chkS] at h
      split at h
      · exact ⟨_, rfl, asg_ok g h⟩
      · cases h) (fun b ss => by simp only [chkS]) (fun b hs => by simp only [chkS])
  | .par _ _ => GoalS.of1 (fun g o ss hs h => by simp only [chkS] at h; cases h) (fun b ss => by simp only [chkS]) (fun b hs => by simp only [chkS])
  | .gc => GoalS.of1 (fun g o ss hs h => by simp only [chkS] at h; cases h) (fun b ss => by simp only [chkS]) (fun b hs => by simp only [chkS])
  | .frz _ => GoalS.of1 (fun g o ss hs h => by simp only [chkS] at h; cases h) (fun b ss => by simp only [chkS]) (fun b hs => by simp only [chkS])
  | .sub o i e => GoalS.of1 (fun g o ss hs h => by
      simp only [chkS] at h
      split at h
      · obtain ⟨h, h4⟩ := and2 h
        obtain ⟨h1, h2, h3⟩ := and3 h
        exact ⟨_, rfl, ps_subR rfl sub_sw.1 (sub_sw (l := 0)).2 (sub_asg h1) (chk_ok e g h2).toE (chk_ok _ g h3).toE (chk_ok i g h4).toE⟩
      · cases h) (fun b ss => by simp only [chkS]) (fun b hs => by simp only [chkS])
  | .aug n o e => GoalS.of1 (fun g _ ss hs h => by
      simp only [chkS] at h
      split at h
      · obtain ⟨h, h6⟩ := and2 h
        obtain ⟨h, h5⟩ := and2 h
        obtain ⟨h, h4⟩ := and2 h
        obtain ⟨h1, h2, h3⟩ := and3 h
        obtain ⟨q, hq⟩ := isSome_of h2
        refine ⟨_, rfl, ps_augR (boB_ok h1) hq g.nd (g.at_ h3) (by rw [g.sc]; exact locB_ok h4) ?_ (chk_ok e g h6).toE⟩
        rcases or2 h5 with h5 | h5
        · exact .inl (g.fnm _ h5)
        · refine .inr ?_
          rw [g.sc]
          exact isKd_ok h5
      · cases h) (fun b ss => by simp only [chkS]) (fun b hs => by simp only [chkS])
  | .augs a i o e => GoalS.of1 (fun g _ ss hs h => by
      simp only [chkS] at h
      split at h
      · obtain ⟨h, h6⟩ := and2 h
        obtain ⟨h, h5⟩ := and2 h
        obtain ⟨h, h4⟩ := and2 h
        obtain ⟨h1, h2, h3⟩ := and3 h
        obtain ⟨q, hq⟩ := isSome_of h2
        exact ⟨_, rfl, ps_augsR (boB_ok h1) hq (aug_st h3) g.K (chk_ok a g h4).toE (chk_ok i g h5).toE (chk_ok e g h6).toE⟩
      · cases h) (fun b ss => by simp only [chkS]) (fun b hs => by simp only [chkS])
  | .app o e => GoalS.of1 (fun g _ ss hs h => by
      simp only [chkS] at h
      split at h
      · obtain ⟨h, h6⟩ := and2 h
        obtain ⟨h, h5⟩ := and2 h
        obtain ⟨h, h4⟩ := and2 h
        obtain ⟨h1, h2, h3⟩ := and3 h
        exact ⟨_, rfl, ps_appR (of_decide_eq_true h1) g.K (baseB_ok h2 _ _) h3 h4 rfl (chk_ok o g h5).toE (chk_ok e g h6).toE⟩
      · cases h) (fun b ss => by simp only [chkS]) (fun b hs => by simp only [chkS])
  | .pop o => GoalS.of1 (fun g _ ss hs h => by
      simp only [chkS] at h
      split at h
      · obtain ⟨h, h4⟩ := and2 h
        obtain ⟨h1, h2, h3⟩ := and3 h
        exact ⟨_, rfl, ps_popR (of_decide_eq_true h1) g.K (baseB_ok h2 _ _) h3 rfl (chk_ok o g h4).toE⟩
      · cases h) (fun b ss => by simp only [chkS]) (fun b hs => by simp only [chkS])
  | .ex e => GoalS.of1 (fun g _ ss hs h => by
      simp only [chkS] at h
      split at h
      · obtain ⟨h1, h2⟩ := and2 h
        exact ⟨_, rfl, ps_exprR (chk_ok e g h2).toE (swaps_none (not_ok h1))⟩
      · cases h) (fun b ss => by simp only [chkS]) (fun b hs => by simp only [chkS])
  | .ife c s r => GoalS.of1 (fun g o ss hs h => by
      simp only [chkS] at h
      split at h
      · obtain ⟨h1, h2, h3⟩ := and3 h
        exact ⟨_, rfl, ps_ifR (chk_ok c g h1).toT ((chkS_ok s g o).2.1 _ h2) ((chkS_ok r g o).2.1 _ h3)⟩
      · cases h) (fun b ss => by simp only [chkS]) (fun b hs => by simp only [chkS])
  | .for t it s => GoalS.of1 (fun g o ss hs h => by
      simp only [chkS] at h
      split at h
      · obtain ⟨h, h5⟩ := and2 h
        obtain ⟨h, h4⟩ := and2 h
        obtain ⟨h1, h2, h3⟩ := and3 h
        obtain ⟨e', q, p1, p2⟩ := chkG_ok g t h4
        cases q
        refine ⟨_, rfl, ps_forR (tup := isTupT t) g.po (g.calm h1).1 (chk_ok it g h3).toI ?_ ((chkS_ok s g o).2.1 _ h5) (fold_of h2 _)⟩
        cases ht : isTupT t with
        | true => exact p2 ht
        | false => exact p1
      · cases h) (fun b ss => by simp only [chkS]) (fun b hs => by simp only [chkS])
  | .whl c s => GoalS.of1 (fun g o ss hs h => by
      simp only [chkS] at h
      split at h
      · obtain ⟨h1, h2⟩ := and2 h
        exact ⟨_, rfl, ps_whlR g.po (chk_ok c g h1).toT ((chkS_ok s g o).2.1 _ h2)⟩
      · cases h) (fun b ss => by simp only [chkS]) (fun b hs => by simp only [chkS])
  | .ret e => GoalS.of1 (fun g _ ss hs h => by
      simp only [chkS] at h
      split at h
      · exact ⟨_, rfl, ps_retR (chk_ok e g h).toE⟩
      · cases h) (fun b ss => by simp only [chkS]) (fun b hs => by simp only [chkS])
  | .retN => GoalS.of1 (fun g _ ss hs h => by
      simp only [chkS] at h
      split at h
      · exact ⟨_, rfl, ps_retNR⟩
      · cases h) (fun b ss => by simp only [chkS]) (fun b hs => by simp only [chkS])
  | .brk => GoalS.of1 (fun g _ ss hs h => by
      simp only [chkS] at h
      split at h
      · exact ⟨_, rfl, ps_breakR⟩
      · cases h) (fun b ss => by simp only [chkS]) (fun b hs => by simp only [chkS])
  | .cnt => GoalS.of1 (fun g _ ss hs h => by
      simp only [chkS] at h
      split at h
      · exact ⟨_, rfl, ps_contR⟩
      · cases h) (fun b ss => by simp only [chkS]) (fun b hs => by simp only [chkS])
  | .pas => GoalS.of1 (fun g _ ss hs h => by
      simp only [chkS] at h
      split at h
      · exact ⟨_, rfl, ps_passR⟩
      · cases h) (fun b ss => by simp only [chkS]) (fun b hs => by simp only [chkS])
  | .rai c es => GoalS.of1 (fun g _ ss hs h => by
      cases es with
      | nil =>
        simp only [chkS] at h
        split at h
        · obtain ⟨h, h5⟩ := and2 h
          obtain ⟨h, h4⟩ := and2 h
          obtain ⟨h1, h2, h3⟩ := and3 h
          obtain ⟨q1, q2, bm, B, n1, n2, q3, q4⟩ := g.rai _ _ (atB_ok h2) (List.contains_iff_mem.mp h3)
          exact ⟨_, rfl, ps_rai0R q3 q4 (g.cl _ _ (atB_ok h2)) q1 q2 (g.gl h4) (dbg_ok h5) (g.calm h1).1 g.tk⟩
        · cases h
      | _ =>
        simp only [chkS] at h
        cases h) (fun b ss => by cases es <;> simp only [chkS]) (fun b hs => by cases es <;> simp only [chkS])
  | .try s r => GoalS.of1 (fun {b X Φ W} g o ss hs h => by
      simp only [chkS] at h
      split at h
      · obtain ⟨h, h4⟩ := and2 h
        obtain ⟨h1, h2, h3⟩ := and3 h
        have he : b.exc = none := by
          rcases o with o | o
          · exact o
          · rw [o] at h1
            cases h1
        obtain ⟨q1, q2⟩ := g.stk h1
        obtain ⟨l, q3, q4⟩ := (chkS_ok r g o).2.2 _ h4
        exact ⟨_, rfl, PS.of (ps_tryN q1 q2 g.nd g.tk (tb := fun W' => tS Φ W' (sx call cons isx nb wf s)) (fun W' pn xe tk po => (chkS_ok s (g.tr tk po he) o).2.1 _ h3) q3) fun D σ H z => try_key (gh := hx call cons isx nb wf r) (fun s x e p => q4 s x e p) z⟩
      · cases h) (fun b ss => by simp only [chkS]) (fun b hs => by simp only [chkS])
  | .hnd c n s r => fun g o => by
    rename_i b X Φ W
    exact ⟨(fun ss hs h => by
      simp only [chkS] at h
      split at h
      · exact ⟨_, rfl, ⟨fun pins s σ H D I ⟨_, _, _, _, _, q⟩ => q.elim⟩⟩
      · cases h), fun ss h => by
      simp only [chkS] at h
      exact no_h h, fun hs h => by
      simp only [chkS] at h
      split at h
      · rename_i x q nm st sts p hds _
        obtain ⟨h, h5⟩ := and2 h
        obtain ⟨h, h4⟩ := and2 h
        obtain ⟨h1, h2, h3⟩ := and3 h
        obtain ⟨l, k1, k2⟩ := (chkS_ok r g o).2.2 _ h5
        have hcl := atB_ok h1
        have names : Names X x (.ref (Φ.A.ca c)) := ⟨g.gl h2, dbg_ok h3, .inl (g.cl _ _ hcl)⟩
        split at h4
        · refine ⟨⟨.ref (Φ.A.ca c), none, fun a cls d => tS Φ WF (sx call cons isx nb wf s)⟩ :: l, .one names trivial (fun a oe cls d pn zc zf => (chkS_ok s (g.suite a ((a, oe) :: pn)) (.inr rfl)).2.1 _ h4) k1, ?_⟩
          intro xc D cls d m H S ρ σ hS hX hE hP
          have hP : PostS Φ W m H (if isx xc.cls "ValueError" || isx xc.cls "LookupError" then if Nat.beq c xc.cls then match sx call cons isx nb wf s ρ S with
            | .ex _ _ _ => .no
            | f => f
            else hx call cons isx nb wf r xc ρ S else .no) D := hP
          split at hP
          · rename_i kn
            refine ⟨Nat.beq c xc.cls, by rw [hX.1]; exact g.exm _ _ _ hcl kn, ?_⟩
            cases hb : Nat.beq c xc.cls with
            | true =>
              rw [hb] at hP
              exact fun a na => bare_key hS hE hP
            | false =>
              rw [hb] at hP
              exact k2 hS hX hE hP
          · exact hP.elim
        · rename_i i y _
          obtain ⟨p1, p2, p3⟩ := and3 h4
          have nok : NameOk X (some i) (some y) := ⟨g.at_ p1, by show X.env.scope.names.lookup y = _; rw [g.sc]; exact isKd_ok p2⟩
          refine ⟨⟨.ref (Φ.A.ca c), some i, fun a cls d D σ H => (cls = .ref (Φ.A.ca c) ∧ d = none) ∧ tS (Φ.xs (heldAt c a)) WF (sx call cons isx nb wf s) D σ H⟩ :: l, .one names nok (fun a oe cls d pn zc zf => PSs.hyp fun z => ?_) k1, ?_⟩
          · obtain ⟨z1, z2⟩ := z
            subst z1
            subst z2
            exact (chkS_ok s (g.suiteAs hcl a oe pn zc zf) (.inr rfl)).2.1 _ p3
          intro xc D cls d m H S ρ σ hS hX hE hP
          have hP : PostS Φ W m H (if isx xc.cls "ValueError" || isx xc.cls "LookupError" then if Nat.beq c xc.cls then if noxE ρ && noxS S && xc.args.isEmpty then match sx call cons isx nb wf s (ρ.set i (some (.xc xc.cls xc.args))) S with
            | .nx ρ1 S1 => if noxE (ρ1.set i none) && noxS S1 then .nx (ρ1.set i none) S1 else .no
            | .rt v S1 => if v.nox && noxS S1 then .rt v S1 else .no
            | _ => .no else .no
            else hx call cons isx nb wf r xc ρ S else .no) D := hP
          split at hP
          · rename_i kn
            refine ⟨Nat.beq c xc.cls, by rw [hX.1]; exact g.exm _ _ _ hcl kn, ?_⟩
            cases hb : Nat.beq c xc.cls with
            | true =>
              rw [hb] at hP
              have hP : PostS Φ W m H (if noxE ρ && noxS S && xc.args.isEmpty then match sx call cons isx nb wf s (ρ.set i (some (.xc xc.cls xc.args))) S with
                | .nx ρ1 S1 => if noxE (ρ1.set i none) && noxS S1 then .nx (ρ1.set i none) S1 else .no
                | .rt v S1 => if v.nox && noxS S1 then .rt v S1 else .no
                | _ => .no else .no) D := hP
              split at hP
              · rename_i nn
                obtain ⟨n1, n2⟩ := and2 nn
                have same := Nat.eq_of_beq_eq_true hb
                have empty : xc.args = [] := List.isEmpty_iff.mp n2
                obtain ⟨y1, y2, y3⟩ := hX
                rw [empty] at y3
                rw [← same] at hP y1
                exact fun a na => ⟨⟨y1, y3⟩, named_key hS hE n1 hP⟩
              · exact hP.elim
            | false =>
              rw [hb] at hP
              exact k2 hS hX hE hP
          · exact hP.elim
        · cases h4
      all_goals exact no_h h⟩
end
end Rn
set_option maxHeartbeats 2000007
/-! All defs of a text at each depth of calls. -/
namespace Rn
open L2 PySem PyProof.Rows PySem.Spec

/-- what the written part says of the text's names -/
structure TextOk (T : Tx) (cons : Nat → Option PV) (isx : Nat → String → Bool) (K : PySem.W.Frag) (mg : Str → Option Value) (A : Ad) : Prop where
  fn : ∀ n x, T.fn[n]? = some x → mg x = some (.ref (A.fa n))
  cn : ∀ n x, T.cn[n]? = some x → ∃ u p, mg x = some u ∧ cons n = some p ∧ ∃ v, RelV v u ∧ ∀ B R m H, RelP ⟨K, A, B, R⟩ m H p v
  cl : ∀ n x, T.cl[n]? = some x → mg x = some (.ref (A.ca n))
  bl : ∀ t ∈ bases, mg (Str.ofString t) = none
  rai : ∀ n x, T.cl[n]? = some x → n ∈ T.c0 → PySem.W.keepIn K (.ref (A.ca n)) = true ∧ PySem.W.subIn K (.ref (A.ca n)) (.type "BaseException") = some true ∧ PySem.W.typeIn K (.ref (A.ca n)) = some (.type "type") ∧
    ∃ (bm : List Value) (B n1 n2 : String), ExcBaseFacts B n1 n2 bm ∧ PySem.W.excIn K (A.ca n) bm n1 = true
  exm : ∀ n x n', T.cl[n]? = some x → (isx n' "ValueError" || isx n' "LookupError") = true → PySem.W.exmOne K (.ref (A.ca n')) (.ref (A.ca n)) = some (Nat.beq n n')
  xis : ∀ n x, T.cl[n]? = some x → ExcC K (A.ca n) ∧ ∀ t, excT t = true → PySem.W.kitOne K (.ref (A.ca n)) (.type t) = some (isx n t)

/-- a def as it stands, as its tree says -/
structure DefOk (T : Tx) (Tf : Nat → Option Fn) (K : PySem.W.Frag) (A : Ad) (n : Nat) (x : Str) (fd : FuncData) (ps : List Str) : Prop where
  ex : ∃ (params : Arguments) (body : List Stmt) (scope : Scope) (N : List Str) (d : Fn), FunD K x x params body scope [] [] (A.fa n) fd ∧ FnScope N ps scope ∧ Tf n = some d ∧ d.np = ps.length ∧ d.ns = N.length ∧
    chkS T d.body .many ⟨N, scope, none, true, true, none⟩ body [] = true
  bd : Binds K fd ps []
  pm : ∀ l, T.pm[n]? = some l → l = ps
  kw : ∀ ks ix, kwB ps ks ix = true → KwBinds K fd ps ks ix

section
variable {T : Tx} {Tf : Nat → Option Fn} {cons : Nat → Option PV} {isx : Nat → String → Bool} {K : PySem.W.Frag} {mg : Str → Option Value} {A : Ad} {P : Program} {w : World} {base : Heap} {wf : Nat}
/-- a def at k calls, one in another -/
def AtK (T : Tx) (Tf : Nat → Option Fn) (cons : Nat → Option PV) (isx : Nat → String → Bool) (K : PySem.W.Frag) (mg : Str → Option Value) (A : Ad) (P : Program) (w : World) (base : Heap) (wf k n : Nat) (fd : FuncData) (ps : List Str) (np : Nat) : Prop :=
  FnOk P w K mg base (L2.CX P w) k (A.fa n) fd ps (spR K A np (run Tf cons isx wf k n)) ∧ (∀ vs S, vs.length ≠ np → run Tf cons isx wf k n vs S = .no) ∧ PySem.W.keepIn K (.ref (A.fa n)) = true ∧ Binds K fd ps [] ∧ (∀ l, T.pm[n]? = some l → l = ps) ∧ ∀ ks ix, kwB ps ks ix = true → KwBinds K fd ps ks ix
theorem never {k n np : Nat} {fd : FuncData} {ps : List Str} (h : ∀ vs S, run Tf cons isx wf k n vs S = .no) (kp : PySem.W.keepIn K (.ref (A.fa n)) = true) (bd : Binds K fd ps []) (pm : ∀ l, T.pm[n]? = some l → l = ps) (kw : ∀ ks ix, kwB ps ks ix = true → KwBinds K fd ps ks ix) : AtK T Tf cons isx K mg A P w base wf k n fd ps np := by
  have no : ∀ vs H Q E, ¬ spR K A np (run Tf cons isx wf k n) vs H Q E := fun vs H Q E z => by
    obtain ⟨Bo, Xr, m, S, qs, σ, _, _, _, z⟩ := z
    rw [h] at z
    exact z
  exact ⟨⟨fun vs H Q E z => absurd z (no vs H Q E), fun A outer s H args us vs Q E _ _ _ _ z => absurd z (no vs H Q E)⟩, fun vs S _ => h vs S, kp, bd, pm, kw⟩
theorem start_rel {Φ : Fm} {m : Mp} {H : Hp} {N : List Str} {ps : List PV} {vs : List V} (r : RelPs Φ m H ps vs) (hN : vs.length ≤ N.length) : RelE Φ m H (ps.map some ++ List.replicate (N.length - ps.length) none) (L2.start N vs) := by
  have hl := r.length
  refine ⟨?_, fun i p e => ?_⟩
  · unfold L2.start
    rw [List.length_append, List.length_append, List.length_map, List.length_map, List.length_replicate, List.length_replicate, hl]
  · by_cases hi : i < ps.length
    · rw [List.getElem?_append_left (by rw [List.length_map]; exact hi), List.getElem?_map] at e
      cases e1 : ps[i]? with
      | none =>
        rw [e1] at e
        cases e
      | some q =>
        rw [e1] at e
        cases e
        obtain ⟨v, e2, e3⟩ := r.get e1
        refine ⟨v, ?_, e3⟩
        unfold L2.start
        rw [List.getElem?_append_left (by rw [List.length_map, ← hl]; exact hi), List.getElem?_map, e2]
        rfl
    · rw [List.getElem?_append_right (by rw [List.length_map]; exact Nat.le_of_not_lt hi), List.getElem?_replicate] at e
      split at e <;> cases e
theorem good_def (M : TextOk T cons isx K mg A) {k : Nat} (F : ∀ n, ∃ fd ps np, AtK T Tf cons isx K mg A P w base wf k n fd ps np) {N ps : List Str} {qual : Str} {scope : Scope} (S : FnScope N ps scope) {f : Addr} {cd : Value} {Ar : Around} {outer : List PySem.Env} {s : Shared} {H : Hp} {E : XK} {Bo : Addr → Prop} {Xr : Nat → V → Prop}
    (hr : Room k (Ar.deeper (envOfC qual scope s.heap.objs.size f cd))) :
    Good T cons isx (run Tf cons isx wf k) k ⟨N, scope, none, true, true, none⟩ (cxOf (L2.CX P w) P w K mg base N qual scope f cd Ar outer s H E) ⟨K, A, Bo, Xr⟩ (fun cls d _ H' => E cls d H') where
  K := rfl
  N := rfl
  sc := rfl
  nd := S.nd
  fnm := fun _ _ => rfl
  un := by
    have := hr.un
    show (Ar.deeper (envOfC qual scope s.heap.objs.size f cd)).units + 200 < cLine
    omega
  tk := takes_of (X := cxOf (L2.CX P w) P w K mg base N qual scope f cd Ar outer s H E) rfl rfl rfl rfl
  po := passes_of (X := cxOf (L2.CX P w) P w K mg base N qual scope f cd Ar outer s H E) rfl
  calm := fun _ => ⟨rfl, hr⟩
  stk := fun _ => ⟨rfl, rfl⟩
  fn := M.fn
  cn := M.cn
  cl := M.cl
  bl := M.bl
  defs := fun n => by
    obtain ⟨fd, ps, np, a, b, c, d, _⟩ := F n
    exact ⟨fd, ps, np, a, b, c, d⟩
  kwd := fun n l hl => by
    obtain ⟨fd, ps, np, a, b, c, d, e, f⟩ := F n
    obtain rfl := e l hl
    exact ⟨fd, np, a, b, c, f⟩
  rai := fun n x h h0 => by
    obtain ⟨a, b, c, d⟩ := M.rai n x h h0
    exact ⟨a, raises_own b c, d⟩
  exm := M.exm
  xis := M.xis
  exc := fun c h => nomatch h
theorem def_step (M : TextOk T cons isx K mg A) {k n : Nat} {x : Str} {fd : FuncData} {ps : List Str} (D : DefOk T Tf K A n x fd ps) (F : ∀ n, ∃ fd ps np, AtK T Tf cons isx K mg A P w base wf k n fd ps np) : AtK T Tf cons isx K mg A P w base wf (k + 1) n fd ps ps.length := by
  obtain ⟨⟨params, body, scope, N, d, FD, S, hT, hp, hN, hc⟩, bd, pm, kw⟩ := D
  have hrun : ∀ vs St, run Tf cons isx wf (k + 1) n vs St = if Nat.beq vs.length d.np then match sx (run Tf cons isx wf k) cons isx St.length wf d.body (vs.map some ++ List.replicate (d.ns - d.np) none) St with
      | .nx _ S1 => .ok .non S1
      | .rt v S1 => .ok v S1
      | .ex c _ S1 => .ex c S1
      | _ => .no
    else .no := fun vs St => by
    show withO (Tf n) _ = _
    rw [hT]
    rfl
  refine ⟨?_, fun vs St hl => ?_, FD.kp, bd, pm, kw⟩
  · refine FD.ok S (fun vs H Q E h => ?_) fun cd Ar outer s H vs Q E hr h => ?_
    · obtain ⟨Bo, Xr, m, St, qs, σ, q1, q2, q3, q4⟩ := h
      rw [← q3.length]
      exact q1
    · obtain ⟨Bo, Xr, m, St, qs, σ, q1, q2, q3, q4⟩ := h
      refine ⟨_, (chkS_ok (nb := St.length) (wf := wf) d.body (good_def M F S hr (Bo := Bo) (Xr := Xr)) (.inl rfl)).2.1 _ hc, m, _, St, q2, start_rel (N := N) q3 ?_, ?_⟩
      · have z := congrArg List.length S.pre
        rw [List.length_take] at z
        rw [← q3.length, q1]
        omega
      · rw [hrun] at q4
        have e1 : Nat.beq qs.length d.np = true := by
          rw [q1, hp]
          exact Nat.beq_refl _
        rw [if_pos e1, hN, hp, ← q1] at q4
        cases hs : sx (run Tf cons isx wf k) cons isx St.length wf d.body (qs.map some ++ List.replicate (N.length - qs.length) none) St with
        | nx ρ S1 =>
          rw [hs] at q4
          exact fun m1 H1 σ1 e1 s1 r1 => q4 m1 H1 .non e1 s1 (by simp only [RelP])
        | rt v S1 =>
          rw [hs] at q4
          exact fun m1 H1 u e1 s1 r1 => q4 m1 H1 u e1 s1 r1
        | ex c ρ S1 =>
          rw [hs] at q4
          exact fun cls d m1 H1 σ1 e1 s1 x1 r1 => q4 cls d m1 H1 e1 s1 x1
        | bk ρ S1 =>
          rw [hs] at q4
          exact q4.elim
        | ct ρ S1 =>
          rw [hs] at q4
          exact q4.elim
        | no =>
          rw [hs] at q4
          exact q4.elim
  · rw [hrun]
    split
    · rename_i e
      exact absurd ((Nat.eq_of_beq_eq_true e).trans hp) hl
    · rfl
theorem all_defs (M : TextOk T cons isx K mg A) (D : ∀ n, (∃ x fd ps, DefOk T Tf K A n x fd ps) ∨ (Tf n = none ∧ PySem.W.keepIn K (.ref (A.fa n)) = true ∧ T.pm[n]? = none ∧ ∃ fd ps, Binds K fd ps [] ∧ ∀ ks ix, kwB ps ks ix = true → KwBinds K fd ps ks ix)) : ∀ k n, ∃ fd ps np, AtK T Tf cons isx K mg A P w base wf k n fd ps np
  | 0, n => by
    rcases D n with ⟨x, fd, ps, d⟩ | ⟨_, kp, z, fd, ps, bd, kw⟩
    · obtain ⟨_, _, _, _, _, FD, _⟩ := d.ex
      exact ⟨fd, ps, 0, never (fun _ _ => rfl) FD.kp d.bd d.pm d.kw⟩
    · exact ⟨fd, ps, 0, never (fun _ _ => rfl) kp bd (fun l h => by rw [z] at h; cases h) kw⟩
  | k + 1, n => by
    rcases D n with ⟨x, fd, ps, d⟩ | ⟨h, kp, z, fd, ps, bd, kw⟩
    · exact ⟨fd, ps, ps.length, def_step M d (all_defs M D k)⟩
    · exact ⟨fd, ps, 0, never (fun _ _ => by
        show withO (Tf n) _ = _
        rw [h]
        rfl) kp bd (fun l h => by rw [z] at h; cases h) kw⟩
end
end Rn
set_option maxHeartbeats 2000007
/-! A law over a text: the facts of the top, the end. -/
namespace Rn
open L2 PySem PyProof.Rows PySem.Spec
/-! ### arguments without defaults -/
theorem lookup_zip {α : Type} : ∀ {ps : List Str} {us : List α}, ps.Nodup → us.length = ps.length → ∀ x ∈ ps, ((ps.zip us).lookup x).isNone = false
  | [], _, _, _, x, h => by cases h
  | p :: ps, [], _, h, _, _ => by simp at h
  | p :: ps, u :: us, nd, hl, x, hx => by
    show (match x == p with | true => some u | false => (ps.zip us).lookup x).isNone = false
    cases e : (x == p) with
    | true => rfl
    | false =>
      rcases List.mem_cons.mp hx with q | q
      · rw [q] at e
        simp at e
      · exact lookup_zip (List.nodup_cons.mp nd).2 (by simpa using hl) x q
theorem zip_back {α : Type} : ∀ {ps : List Str} {us : List α}, ps.Nodup → us.length = ps.length → (ps.filterMap fun n => ((ps.zip us).lookup n).map (n, ·)) = ps.zip us
  | [], _, _, _ => rfl
  | p :: ps, [], _, h => by simp at h
  | p :: ps, u :: us, nd, hl => by
    have zq153 := List.nodup_cons.mp nd
    obtain ⟨n1, n2⟩ := zq153
    have ih := zip_back n2 (show us.length = ps.length by simpa using hl)
    rw [List.filterMap_cons]
    have e1 : (((p :: ps).zip (u :: us)).lookup p).map (p, ·) = some (p, u) := by
      show (match p == p with | true => some u | false => (ps.zip us).lookup p).map (p, ·) = _
      rw [beq_self_eq_true]
      rfl
    rw [e1]
    show (p, u) :: _ = (p, u) :: ps.zip us
    rw [← ih]
    congr 1
    have q : ∀ x ∈ ps, (((p :: ps).zip (u :: us)).lookup x).map (x, ·) = ((ps.zip us).lookup x).map (x, ·) := fun x hx => by
      have e : (x == p) = false := beq_eq_false_iff_ne.mpr fun e => n1 (e ▸ hx)
      show (match x == p with | true => some u | false => (ps.zip us).lookup x).map (x, ·) = _
      rw [e]
    rw [ih]
    rw [← ih]
    exact fm_congr ps q
theorem bind_plain {x qual : Str} {as : List Arg} {body : List Stmt} {scope : Scope} {kV doc pm : Value} {an : Option Addr} {cdv ct : Value} {us : List Value} (nd : (as.map (·.arg)).Nodup) (hl : us.length = (as.map (·.arg)).length) :
    bindArgs (PySem.W.fnOf x qual ⟨[], as, none, [], [], none, []⟩ body scope .none kV doc pm an cdv ct) ⟨us, []⟩ = pure ((as.map (·.arg)).zip us) := by
  have h1 : seqItems? Value.none = pure none := rfl
  have h2 : ¬ us.length > (as.map (·.arg)).length := by omega
  have h3 : ((as.map (·.arg)).filter fun n => (((as.map (·.arg)).zip us).lookup n).isNone) = [] := List.filter_eq_nil_iff.mpr fun x hx => by
    rw [lookup_zip nd hl x hx]
    exact Bool.false_ne_true
  have h4 := zip_back nd hl
  unfold bindArgs PySem.W.fnOf
  simp only [List.map_nil, List.nil_append, List.append_nil, List.forIn_nil, pure_bind, h1, h2, decide_false, Bool.false_and, Option.getD_none, List.drop_nil, List.length_nil, Nat.sub_zero, List.take_length, h3, List.drop_length, List.zip_nil_left, List.isEmpty_nil, Bool.not_true, if_false, Bool.false_eq_true, h4]

/-! ### a def of the text, by its place -/
def stAt (p : Program) (i : Nat) : Stmt := p.main.body.getD i (.Pass ⟨0, 0, 0, 0⟩)
def nmS : Stmt → Str
  | .FunctionDef x _ _ _ _ _ _ _ _ _ => x
  | _ => ⟨#[]⟩
def asS : Stmt → List Arg
  | .FunctionDef _ ⟨_, as, _, _, _, _, _⟩ _ _ _ _ _ _ _ _ => as
  | _ => []
def plainS1 : Stmt → Bool
  | .FunctionDef _ ⟨[], _, none, [], [], none, []⟩ _ _ _ _ _ _ _ _ => true
  | _ => false
theorem plainS1_ok {s : Stmt} (h : plainS1 s = true) : defArgs s = ⟨[], asS s, none, [], [], none, []⟩ := by
  unfold plainS1 at h
  split at h
  · rfl
  · cases h
def psS (s : Stmt) : List Str := (asS s).map (·.arg)
def defD (p : Program) (i : Nat) : He.DefD := ⟨(nmS (stAt p i), none), nmS (stAt p i), nmS (stAt p i), defArgs (stAt p i), defBody (stAt p i), defScope (stAt p i), [], []⟩
def nodupB : List Str → Bool
  | [] => true
  | x :: r => !memB x r && nodupB r
theorem nodupB_ok : ∀ {l : List Str}, nodupB l = true → l.Nodup
  | [], _ => List.nodup_nil
  | x :: r, h => by
    obtain ⟨h1, h2⟩ := and2 (show (!memB x r && nodupB r) = true from h)
    exact List.nodup_cons.mpr ⟨memB_no (not_ok h1), nodupB_ok h2⟩
def scopeB (N ps : List Str) (sc : Scope) : Bool := decide (sc.kind = .function) && !sc.isCoroutine && !sc.isGenerator && nodupB N && decide (N.take ps.length = ps) && ps.all (locB sc) && sc.names.all (fun y => match y.2 with
  | .free => false
  | _ => true)
theorem scopeB_ok {N ps : List Str} {sc : Scope} (h : scopeB N ps sc = true) : FnScope N ps sc := by
  obtain ⟨h, h7⟩ := and2 h
  obtain ⟨h, h6⟩ := and2 h
  obtain ⟨h, h5⟩ := and2 h
  obtain ⟨h, h4⟩ := and2 h
  obtain ⟨h1, h2, h3⟩ := and3 h
  refine ⟨of_decide_eq_true h1, not_ok h2, not_ok h3, nodupB_ok h4, of_decide_eq_true h5, fun x hx => locB_ok (all_ok h6 x hx), fun y hy e => ?_⟩
  have q := all_ok h7 y hy
  rw [e] at q
  cases q
/-- the look at a def: N its names -/
def defB (T : Tx) (s : Stmt) (x : Str) (N : List Str) (d : Fn) : Bool := decide (nmS s = x) && plainS1 s && nodupB (psS s) && scopeB N (psS s) (defScope s) && Nat.beq d.np (psS s).length && Nat.beq d.ns N.length && chkS T d.body .many ⟨N, defScope s, none, true, true, none⟩ (defBody s) []
/-- all defs: places, names -/
def defsB (T : Tx) (p : Program) : List Str → List (Nat × List Str) → List Fn → Bool
  | [], [], [] => true
  | x :: xs, q :: qs, d :: ds => defB T (stAt p q.1) x q.2 d && defsB T p xs qs ds
  | _, _, _ => false
theorem defsB_at {T : Tx} {p : Program} : ∀ {xs : List Str} {qs : List (Nat × List Str)} {ds : List Fn}, defsB T p xs qs ds = true → ∀ {n : Nat} {x : Str}, xs[n]? = some x → ∃ q d, qs[n]? = some q ∧ ds[n]? = some d ∧ defB T (stAt p q.1) x q.2 d = true
  | [], [], [], _, n, x, e => by simp at e
  | [], _ :: _, _, h, _, _, _ => by cases h
  | [], [], _ :: _, h, _, _, _ => by cases h
  | _ :: _, [], _, h, _, _, _ => by cases h
  | _ :: _, _ :: _, [], h, _, _, _ => by cases h
  | x :: xs, q :: qs, d :: ds, h, 0, y, e => by
    obtain ⟨h1, h2⟩ := and2 (show (defB T (stAt p q.1) x q.2 d && defsB T p xs qs ds) = true from h)
    have e : x = y := by simpa using e
    subst e
    exact ⟨q, d, rfl, rfl, h1⟩
  | x :: xs, q :: qs, d :: ds, h, n + 1, y, e => by
    obtain ⟨h1, h2⟩ := and2 (show (defB T (stAt p q.1) x q.2 d && defsB T p xs qs ds) = true from h)
    exact defsB_at h2 (n := n) (by simpa using e)
theorem defsB_len {T : Tx} {p : Program} : ∀ {xs : List Str} {qs : List (Nat × List Str)} {ds : List Fn}, defsB T p xs qs ds = true → xs.length = ds.length
  | [], [], [], _ => rfl
  | [], _ :: _, _, h => by cases h
  | [], [], _ :: _, h => by cases h
  | _ :: _, [], _,
        h => by cases h
  | _ :: _, _ :: _, [], h => by cases h
  | x :: xs, q :: qs, d :: ds, h => by
    obtain ⟨h1, h2⟩ := and2 (show (defB T (stAt p q.1) x q.2 d && defsB T p xs qs ds) = true from h)
    rw [List.length_cons, List.length_cons, defsB_len h2]

theorem defsB_dl {T : Tx} {p : Program} : ∀ {xs : List Str} {qs : List (Nat × List Str)} {ds : List Fn}, defsB T p xs qs ds = true → xs.length = qs.length
  | [], [], [], _ => rfl
  | [], [], _ :: _, h => by cases h
  | [], _ :: _, _, h => by cases h
  | _ :: _, [], _, g => by cases g
  | _ :: _, _ :: _, [], h => by cases h
  | x :: xs, q :: qs, d :: ds, h => by
    obtain ⟨_, h2⟩ := and2 (show (defB T (stAt p q.1) x q.2 d && defsB T p xs qs ds) = true from h)
    rw [List.length_cons, List.length_cons, defsB_dl h2]

/-! ### constants -/
mutual
def conB (K : PySem.W.Frag) : PV → Value → Bool
  | .non, .none => true
  | .bl b, .bool c => b == c
  | .int i, .int j _ =>
        decide (i = j)
  | .str x, .str y _ => decide (x = y) && Nat.ble x.cps.size lim
  | .tup l, .ref a => match K.lookup a with
    | some ⟨.type c, none, .seq its _, _⟩ => decide (c = "tuple") && Nat.ble its.size lim && conBs K l its.toList
    | _ => false
  | _, _ => false
def conBs (K : PySem.W.Frag) : List PV → List Value → Bool
  | [], [] => true
  | p :: ps, u :: us => conB K p u && conBs K ps us
  | _, _ => false
end
mutual
theorem conB_ok {K : PySem.W.Frag} : ∀ {p : PV} {u : Value}, conB K p u = true → ∃ v, RelV v u ∧ ∀ A B R m H, RelP ⟨K, A, B, R⟩ m H p v
  | .non, u, h => by
    cases u with
    | none => exact ⟨.non, rfl, fun A B R m H => by simp only [RelP]⟩
    | _ => simp [conB] at h
  | .bl b, u, h => by
    cases u with
    | bool c =>
      have e : b = c := eq_of_beq (show (b == c) = true by simpa only [conB] using h)
      subst e
      exact ⟨.bl b, rfl, fun A B R m H => by simp only [RelP]⟩
    | _ => simp [conB] at h
  | .int i, u, h => by
    cases u with
    | int j t =>
      have e : i = j := of_decide_eq_true (show decide (i = j) = true by simpa only [conB] using h)
      subst e
      exact ⟨.int i, ⟨t, rfl⟩, fun A B R m H => by simp only [RelP]⟩
    | _ => simp [conB] at h
  | .str x, u, h => by
    cases u with
    | str y t =>
      obtain ⟨h1, h2⟩ := and2 (show (decide (x = y) && Nat.ble x.cps.size lim) = true by simpa only [conB] using h)
      cases of_decide_eq_true h1
      exact ⟨.str x, ⟨t, rfl⟩, fun A B R m H => by
        simp only [RelP]
        exact ⟨trivial, Nat.le_of_ble_eq_true h2⟩⟩
    | _ => simp [conB] at h
  | .tup l, u, h => by
    cases u with
    | ref a =>
      simp only [conB] at h
      split at h
      · rename_i c its n sl e
        obtain ⟨h1, h2, h3⟩ := and3 h
        cases of_decide_eq_true h1
        obtain ⟨vs, r, k⟩ := conBs_ok h3
        refine ⟨.ref a, rfl, fun A B R m H => ?_⟩
        simp only [RelP]
        exact ⟨a, vs, rfl, .inl ⟨_, its, n, e, rfl, rfl, rfl, size_lim (Nat.le_of_ble_eq_true h2), r⟩, k A B R m H⟩
      · cases h
    | _ => simp [conB] at h
  | .lst _, u, h => by simp [conB] at h
  | .klst _, u, h => by simp [conB] at h
  | .box _, u, h => by simp [conB] at h
  | .fn _, u, h => by simp [conB] at h
  | .ty _, u, h => by simp [conB] at h
  | .xc _ _, u, h => by simp [conB] at h
theorem conBs_ok {K : PySem.W.Frag} : ∀ {ps : List PV} {us : List Value}, conBs K ps us = true → ∃ vs, Vals vs us ∧ ∀ A B R m H, RelPs ⟨K, A, B, R⟩ m H ps vs
  | [], [], _ => ⟨[], .nil, fun A B R m H => RelPs.nil⟩
  | [], _ :: _, h => by simp [conBs] at h
  | _ :: _, [], h => by simp [conBs] at h
  | p :: ps, u :: us, h => by
    obtain ⟨h1, h2⟩ := and2 (show (conB K p u && conBs K ps us) = true by simpa only [conBs] using h)
    obtain ⟨v, r1, k1⟩ := conB_ok h1
    obtain ⟨vs, r2, k2⟩ := conBs_ok h2
    exact ⟨v :: vs, .cons r1 r2, fun A B R m H => RelPs.cons (k1 A B R m H) (k2 A B R m H)⟩
end

/-! ### a text: trees, constants, classes (their bases) -/
structure Txt where
  T : Tx
  Tf : List Fn
  cn : List PV
  cb : List String
  ds : List (Nat × List Str)
  law : Nat
def Txt.tf (t : Txt) (n : Nat) : Option Fn := t.Tf[n]?
def Txt.cons (t : Txt) (n : Nat) : Option PV := t.cn[n]?
def Txt.isx (t : Txt) (c : Nat) (s : String) : Bool := match t.cb[c]? with
  | some b => b == s
  | none => false
def Txt.ad (t : Txt) (K : PySem.W.Frag) : Ad := ⟨fun n => match t.T.fn[n]? with
  | some x => He.ga K x
  | none => He.ga K (t.T.fn.headD ⟨#[]⟩), fun c => He.ga K (t.T.cl.getD c ⟨#[]⟩), fun _ => ⟨#[]⟩⟩
/-- the facts that the head shows -/
def Txt.fas (t : Txt) : List He.Fa := t.T.fn.map .glo ++ t.T.cl.map .glo ++ bases.map (fun s => .free (Str.ofString s)) ++ t.T.c0.map (fun c => .exc (t.T.cl.getD c ⟨#[]⟩)) ++
  (List.range t.T.cl.length).flatMap fun i => (List.range t.T.cl.length).map fun j => .exm (t.T.cl.getD j ⟨#[]⟩) (t.T.cl.getD i ⟨#[]⟩) (Nat.beq i j)
def clsB (K : PySem.W.Frag) (x : Str) (b : String) : Bool :=
  He.eqO (PySem.W.findIn K (.ref (He.ga K x)) "__getattribute__") (some (some (.builtin "BaseException.__getattribute__"))) && He.eqO (PySem.W.findIn K (.ref (He.ga K x)) "__getattr__") (some none) && decide (PySem.W.subIn K (.ref (He.ga K x)) (.type "BaseException") = some true) && PySem.W.hasDictIn K (He.ga K x) &&
  He.eqO (PySem.W.findIn K (.ref (He.ga K x)) "__class__") (some (some (.builtin "object.__class__"))) && He.eqO (PySem.W.specialIn K (.builtin "object.__class__") "__get__") (some (some (.builtin "getset_descriptor.__get__"))) && decide (PySem.W.takesIn K (.builtin "object.__class__") = some true) && decide (PySem.W.mroIn K (He.ga K x) (.type "object") = some true) &&
  decide (PySem.W.kitOne K (.ref (He.ga K x)) (.type "ValueError") = some (b == "ValueError")) && decide (PySem.W.kitOne K (.ref (He.ga K x)) (.type "LookupError") = some (b == "LookupError"))
def clssB (K : PySem.W.Frag) : List Str → List String → Bool
  | [], [] => true
  | x :: xs, b :: bs => clsB K x b && clssB K xs bs
  | _, _ => false
def consB (K : PySem.W.Frag) : List Str → List PV → Bool
  | [], [] => true
  | x :: xs, p :: ps => (match PySem.W.nsIn K mainGlobals x with
    | some (some u) => conB K p u
    | _ => false) && consB K xs ps
  | _, _ => false
def Txt.ex (t : Txt) (K : PySem.W.Frag) : Bool := consB K t.T.cn t.cn && clssB K t.T.cl t.cb

/-! ### the Hook -/
def obsF (n : Nat) (fa : List He.Fa) (fn : List He.DefD) (ex : PySem.W.Frag → Bool) (g : Addr → Option Obj) : He.AlD × Bool := (He.obsD fa fn (He.frG g (He.asD g n)), ex (He.frG g (He.asD g n)))
def hookF (n : Nat) (fa : List He.Fa) (fn : List He.DefD) (ex : PySem.W.Frag → Bool) : PySem.W.Hook where
  α := He.AlD × Bool
  obs := fun s => obsF n fa fn ex s.heap.get?
  val := fun _ => (He.valD fn, true)
  says := fun _ h => ∃ K : PySem.W.Frag, K.In h ∧ He.SaysD fa fn K ∧ ex K = true
  of := fun _ s e => ⟨He.frG s.heap.get? (He.asD s.heap.get? n), He.frG_in, congrArg (fun z : He.AlD × Bool => z.1) e, congrArg (fun z : He.AlD × Bool => z.2) e⟩
  keeps := fun _ _ _ ⟨K, hK, c⟩ k =>
        ⟨K, PySem.W.Frag.In.keeps hK k, c⟩
theorem obsF_eq {n : Nat} {fa : List He.Fa} {fn : List He.DefD} {ex : PySem.W.Frag → Bool} {g : Addr → Option Obj} {s : Shared} (h : ∀ a, g a = s.heap.get? a) : obsF n fa fn ex g = (hookF n fa fn ex).obs s := by
  have e : g = s.heap.get? :=
        funext h
  rw [e] <;> rfl

section
variable {t : Txt} {p : Program} {K : PySem.W.Frag} {h : Heap} {mg : Str → Option Value}
theorem fact_of {fa : List He.Fa} {fn : List He.DefD} (c : He.SaysD fa fn K) {f : He.Fa} (m : f ∈ fa) : f.ok K = true := by
  obtain ⟨i, hi, e⟩ := List.mem_iff_getElem.mp m
  refine c.fact i (f := f) (by rw [List.getElem?_eq_getElem hi, e])
theorem getD_of {α : Type} {l : List α} {i : Nat} {x d : α} (h : l[i]? = some x) : l.getD i d = x := by
  rw [List.getD_eq_getElem?_getD, h]
  rfl
theorem clssB_at : ∀ {xs : List Str} {bs : List String}, clssB K xs bs = true → ∀ {n : Nat} {x : Str}, xs[n]? = some x → ∃ b, bs[n]? = some b ∧ clsB K x b = true
  | [], [], _, n, x, e => by simp at e
  | [], _ :: _, h, _, _, _ => by cases h
  | _ :: _, [], h, _, _, _ => by cases h
  | x :: xs, b :: bs, h, 0, y, e => by
    have e : x = y := by simpa using e
    subst e
    exact ⟨b, rfl, (and2 (show (clsB K x b && clssB K xs bs) = true from h)).1⟩
  | x :: xs, b :: bs, h, n + 1, y, e => clssB_at (and2 (show (clsB K x b && clssB K xs bs) = true from h)).2 (n := n) (by simpa using e)
theorem clssB_len : ∀ {xs : List Str} {bs : List String}, clssB K xs bs = true → xs.length = bs.length
  | [], [], _ => rfl
  | [], _ :: _, h => by cases h
  | _ :: _, [], h => by cases h
  | x :: xs, b :: bs, h => by rw [List.length_cons, List.length_cons, clssB_len (and2 (show (clsB K x b && clssB K xs bs) = true from h)).2]
theorem consB_at : ∀ {xs : List Str} {ps : List PV}, consB K xs ps = true → ∀ {n : Nat} {x : Str}, xs[n]? = some x → ∃ u q, PySem.W.nsIn K mainGlobals x = some (some u) ∧ ps[n]? = some q ∧ conB K q u = true
  | [], [], _, n, x, e => by simp at e
  | [], _ :: _, h, _, _, _ => by cases h
  | _ :: _, [], h, _, _, _ => by cases h
  | x :: xs, q :: qs, h, 0, y, e => by
    have e : x = y := by simpa using e
    subst e
    obtain ⟨h1, _⟩ := and2 (show ((match PySem.W.nsIn K mainGlobals x with
      | some (some u) => conB K q u
      | _ => false) && consB K xs qs) = true from h)
    split at h1
    · rename_i u e
      exact ⟨u, q, e, rfl, h1⟩
    · cases h1
  | x :: xs, q :: qs, h, n + 1, y, e => consB_at (and2 (show ((match PySem.W.nsIn K mainGlobals x with
      | some (some u) => conB K q u
      | _ => false) && consB K xs qs) = true from h)).2 (n := n) (by simpa using e)
theorem text_ok (X : K.In h) (G : h.Ns mainGlobals mg) {fn : List He.DefD} (c : He.SaysD t.fas fn K) (e : t.ex K = true) : TextOk t.T t.cons t.isx K mg (t.ad K) := by
  obtain ⟨e1, e2⟩ := and2 e
  have ca : ∀ {n : Nat} {x : Str}, t.T.cl[n]? = some x → (t.ad K).ca n = He.ga K x := fun hx => by
    show He.ga K (t.T.cl.getD _ ⟨#[]⟩) = _
    rw [getD_of hx]
  have inl : ∀ {f : He.Fa}, f ∈ t.T.fn.map He.Fa.glo → f ∈ t.fas := fun m => List.mem_append_left _ (List.mem_append_left _ (List.mem_append_left _ (List.mem_append_left _ m)))
  refine ⟨fun n x hx => ?_, fun n x hx => ?_, fun n x hx => ?_, fun s hs => ?_, fun n x hx h0 => ?_, fun n x n' hx kn => ?_, fun n x hx => ?_⟩
  · show mg x = some (.ref (match t.T.fn[n]? with
      | some x => He.ga K x
      | none => He.ga K (t.T.fn.headD ⟨#[]⟩)))
    rw [hx]
    exact He.glo_ok X G (fact_of c (inl (List.mem_map.mpr ⟨x, List.mem_of_getElem? hx, rfl⟩)))
  · obtain ⟨u, q, u1, u2, u3⟩ := consB_at e1 hx
    obtain ⟨v, v1, v2⟩ := conB_ok u3
    exact ⟨u, q, PySem.W.mg_of X G u1, u2, v, v1, fun B R m H => v2 _ B R m H⟩
  · rw [ca hx]
    exact He.glo_ok X G (fact_of c (List.mem_append_left _ (List.mem_append_left _ (List.mem_append_left _ (List.mem_append_right _ (List.mem_map.mpr ⟨x, List.mem_of_getElem? hx, rfl⟩))))))
  · exact He.free_ok X G (fact_of c (List.mem_append_left _ (List.mem_append_left _ (List.mem_append_right _ (List.mem_map.mpr ⟨s, hs, rfl⟩)))))
  · have q := He.exc_ok (fact_of c (List.mem_append_left _ (List.mem_append_right _ (List.mem_map.mpr ⟨n, h0, rfl⟩))))
    rw [getD_of hx] at q
    rw [ca hx]
    exact ⟨q.2.1, q.2.2.1, q.2.2.2, He.veBase, "ValueError", "ValueError.__new__", _, PySem.F.excBase_ValueError, q.1⟩
  · obtain ⟨b, hb⟩ : ∃ b, t.cb[n']? = some b := by
      cases z : t.cb[n']? with
      | some b => exact ⟨b, rfl⟩
      | none =>
        unfold Txt.isx at kn
        rw [z] at kn
        cases kn
    have hl : n' < t.T.cl.length := by
      rw [clssB_len e2]
      exact (List.getElem?_eq_some_iff.mp hb).1
    have hn : n < t.T.cl.length := (List.getElem?_eq_some_iff.mp hx).1
    exact He.exm_ok (fact_of c (List.mem_append_right _ (List.mem_flatMap.mpr ⟨n, List.mem_range.mpr hn, List.mem_map.mpr ⟨n', List.mem_range.mpr hl, rfl⟩⟩)))
  · obtain ⟨b, hb, k⟩ := clssB_at e2 hx
    obtain ⟨k, k10⟩ := and2 k
    obtain ⟨k, k9⟩ := and2 k
    obtain ⟨k, k8⟩ := and2 k
    obtain ⟨k, k7⟩ := and2 k
    obtain ⟨k, k6⟩ := and2 k
    obtain ⟨k, k5⟩ := and2 k
    obtain ⟨k, k4⟩ := and2 k
    obtain ⟨k1, k2, k3⟩ := and3 k
    rw [ca hx]
    refine ⟨⟨He.eqO_ok k1, He.eqO_ok k2, of_decide_eq_true k3, k4, He.eqO_ok k5, He.eqO_ok k6, of_decide_eq_true k7, of_decide_eq_true k8⟩, fun s hs => ?_⟩
    have q : t.isx n s = (b == s) := by
      unfold Txt.isx
      rw [hb]
    rw [q]
    rcases or2 hs with hs | hs
    · cases eq_of_beq hs
      exact of_decide_eq_true k9
    · cases eq_of_beq hs
      exact of_decide_eq_true k10
theorem def_ok (X : K.In h) {fa : List He.Fa} (c : He.SaysD fa (t.ds.map fun q => defD p q.1) K) (look : defsB t.T p t.T.fn t.ds t.Tf = true) (hpm : t.T.pm = t.ds.map fun q => psS (stAt p q.1)) {n : Nat} {x : Str} (hx : t.T.fn[n]? = some x) : ∃ fd ps, DefOk t.T t.tf K (t.ad K) n x fd ps ∧ ∀ q, t.ds[n]? = some q → ps = psS (stAt p q.1) ∧ ∀ (s : Shared) (us : List Value), us.length = ps.length → BindsTo s fd ⟨us, []⟩ (ps.zip us) := by
  obtain ⟨q, d, h1, h2, h3⟩ := defsB_at look hx
  obtain ⟨h3, a7⟩ := and2 h3
  obtain ⟨h3, a6⟩ := and2 h3
  obtain ⟨h3, a5⟩ := and2 h3
  obtain ⟨h3, a4⟩ := and2 h3
  obtain ⟨a1, a2, a3⟩ := and3 h3
  obtain ⟨fd, FD⟩ := c.def_ n (d := defD p q.1) (by rw [List.getElem?_map, h1]; rfl)
  have nm := of_decide_eq_true a1
  have ea : (t.ad K).fa n = He.ga K x := by
    show (match t.T.fn[n]? with
      | some x => He.ga K x
      | none => He.ga K (t.T.fn.headD ⟨#[]⟩)) = _
    rw [hx]
  have FD : FunD K x x (defArgs (stAt p q.1)) (defBody (stAt p q.1)) (defScope (stAt p q.1)) [] [] (He.ga K x) fd := by
    have z : FunD K (nmS (stAt p q.1)) (nmS (stAt p q.1)) (defArgs (stAt p q.1)) (defBody (stAt p q.1)) (defScope (stAt p q.1)) [] [] (He.ga K (nmS (stAt p q.1))) fd := FD
    rw [nm] at z
    exact z
  have bn := fun (kV doc pm : Value) (an : Option Addr) (cdv ct : Value) (us : List Value) (hl : us.length = (psS (stAt p q.1)).length) => by
    have z := bind_plain (x := x) (qual := x) (as := asS (stAt p q.1)) (body := defBody (stAt p q.1)) (scope := defScope (stAt p q.1)) (kV := kV) (doc := doc) (pm := pm) (an := an) (cdv := cdv) (ct := ct) (nodupB_ok a3) hl
    rw [← plainS1_ok a2] at z
    exact z
  refine ⟨fd, psS (stAt p q.1), ⟨⟨defArgs (stAt p q.1), defBody (stAt p q.1), defScope (stAt p q.1), q.2, d, ?_, scopeB_ok a4, h2, Nat.eq_of_beq_eq_true a5, Nat.eq_of_beq_eq_true a6, a7⟩, FD.bindsN bn, fun l hl => ?_, fun ks ix hk s us ws _ h5 h6 _ => ?_⟩, fun q' e => ?_⟩
  · rw [ea]
    exact FD
  · rw [hpm, List.getElem?_map, h1] at hl
    cases hl
    rfl
  · obtain ⟨k1, k2, k3⟩ := and3 hk
    obtain ⟨oc, od, dV, kV, doc, pm, an, cdv, ct, osl, rfl, lk, hcd, hD, hK⟩ := FD.ex
    rcases hD with ⟨_, rfl⟩ | ⟨nn, _⟩
    · have z := bind_kw (x := x) (qual := x) (as := asS (stAt p q.1)) (body := defBody (stAt p q.1)) (scope := defScope (stAt p q.1)) (kV := kV) (doc := doc) (pm := pm) (an := an) (cdv := cdv) (ct := ct) (of_decide_eq_true k1) (fun k hk => all_ok k2 k hk) (of_decide_eq_true k3) h6 h5
      rw [← plainS1_ok a2] at z
      exact .of_eq z
    · exact absurd rfl nn
  · rw [h1] at e
    cases e
    exact ⟨rfl, FD.bindsA bn⟩
/-- no exception leaves it -/
theorem calm_fn {P : Program} {w : World} {base : Heap} {k : Nat} {f : Addr} {fd : FuncData} {ps : List Str} {sp : Sp} (F : FnOk P w K mg base (L2.CX P w) k f fd ps sp) : FnOk P w K mg base CX0 k f fd ps (fun vs H Q _ => sp vs H Q E0) where
  len := fun vs H Q E h => F.len vs H Q E0 h
  run := fun A outer s H args us vs Q E hr he hb hv h => codeAny_mono (F.run A outer s H args us vs Q E0 hr he hb hv h) fun r s' z => by
    cases r with
    | error e =>
      obtain ⟨_, _, _, _, _, _, _, _, _, _, _, _, no⟩ := z
      exact no.elim
    | ok fl => cases fl <;> exact z
/-- a law whose run is right for all scripts -/
theorem law_walk {l : PySem.W.OpenLaw} {q : Program} {loose : List Str} {XP : (Str → Option Value) → Heap → Prop} {d : DefRec} {n k wf : Nat} (hn : l.most = some 63) (hdf : d.params.defaults = []) (hr : Room k callerA)
    (look : defsB t.T l.prog t.T.fn t.ds t.Tf = true) (hpm : t.T.pm = t.ds.map fun q => psS (stAt l.prog q.1)) (hlaw : t.T.fn[t.law]? = some ("law" : Str)) (hps : (t.ds[t.law]?.map fun q => psS (stAt l.prog q.1)) = some [("script" : Str)]) (hd : d.name = ("law" : Str))
    (right : ∀ ns : List Int, ns.length ≤ 63 → ∃ S, run t.tf t.cons t.isx wf k t.law [.klst (ns.map .int)] [] = .ok (.bl true) S) :
    PySem.W.WalkO q loose XP (hookF n t.fas (t.ds.map fun q => defD l.prog q.1) t.ex).says l.row.toRowW d [] (fun f vs => PySem.call f vs) := by
  refine L2.walk_ofE (n := 63) (k := k) (x := ("script" : Str)) (CX := CX0) hn (by decide) hdf hr (fun w mg fa h Y G hmg => ?_) (fun _ _ _ _ z => z)
  obtain ⟨K, KX, c, ex⟩ := Y
  rw [hd] at hmg
  have M := text_ok (t := t) KX G c ex
  obtain ⟨fd0, ps0, D0, rest⟩ := def_ok (p := l.prog) KX c look hpm hlaw
  have e := hmg.symm.trans (M.fn _ _ hlaw)
  cases e
  obtain ⟨q, hq, hq2⟩ := Option.map_eq_some_iff.mp hps
  obtain ⟨r1, r2⟩ := rest q hq
  rw [hq2] at r1
  subst r1
  have D : ∀ n, (∃ x fd ps, DefOk t.T t.tf K (t.ad K) n x fd ps) ∨ (t.tf n = none ∧ PySem.W.keepIn K (.ref ((t.ad K).fa n)) = true ∧ t.T.pm[n]? = none ∧ ∃ fd ps, Binds K fd ps [] ∧ ∀ ks ix, kwB ps ks ix = true → KwBinds K fd ps ks ix) := fun n => by
    cases hx : t.T.fn[n]? with
    | some x =>
      obtain ⟨fd, ps, d, _⟩ := def_ok (p := l.prog) KX c look hpm hx
      exact .inl ⟨x, fd, ps, d⟩
    | none =>
      have hl := defsB_len look
      have z : t.tf n = none := List.getElem?_eq_none (by rw [← hl]; exact List.getElem?_eq_none_iff.mp hx)
      have h0 : 0 < t.T.fn.length := Nat.lt_of_le_of_lt (Nat.zero_le _) (List.getElem?_eq_some_iff.mp hlaw).1
      obtain ⟨fd, ps, d, _⟩ := def_ok (p := l.prog) KX c look hpm (List.getElem?_eq_getElem h0)
      obtain ⟨_, _, _, _, _, FD, _⟩ := d.ex
      have ea : (t.ad K).fa n = (t.ad K).fa 0 := by
        show (match t.T.fn[n]? with
          | some x => He.ga K x
          | none => He.ga K (t.T.fn.headD ⟨#[]⟩)) = (match t.T.fn[0]? with
          | some x => He.ga K x
          | none => He.ga K (t.T.fn.headD ⟨#[]⟩))
        rw [hx]
        cases t.T.fn <;> rfl
      have dl := defsB_dl look
      have zp : t.T.pm[n]? = none := List.getElem?_eq_none (by rw [hpm, List.length_map, ← dl]; exact List.getElem?_eq_none_iff.mp hx)
      exact .inr ⟨z, by rw [ea]; exact FD.kp, zp, fd, ps, d.bd, d.kw⟩
  refine ⟨K, fd0, fun vs H Q _ => spR K (t.ad K) 1 (run t.tf t.cons t.isx wf k t.law) vs H Q E0, KX, fun s u => r2 s [u] rfl, fun H a ns hl _ hS => ?_, fun base _ _ => ?_⟩
  · obtain ⟨S, hrun⟩ := right ns hl
    refine ⟨fun _ => False, fun _ _ => False, [], [], [.klst (ns.map .int)], [], rfl, relS_nil (fun a z => z.elim), RelPs.cons ?_ RelPs.nil, ?_⟩
    · simp only [RelP]
      refine ⟨a, ns.map V.int, rfl, ?_, rel_ints ns⟩
      rcases hS with hS | hS
      · exact .inr ⟨hS, fun z => z, fun z => nomatch z⟩
      · exact .inl hS
    · rw [hrun]
      intro m' H' v _ _ r
      simp only [RelP] at r
      exact r
  · cases k with
    | zero =>
      obtain ⟨S, hrun⟩ := right [] (Nat.zero_le _)
      cases hrun
    | succ k =>
      have step := def_step M D0 (fun n => all_defs (P := l.prog) (w := w) (base := base) (wf := wf) M D k n)
      exact calm_fn step.1
end
end Rn
set_option maxHeartbeats 1000007
/-! What the laws draw. -/
namespace Rn
open PySem
def bTake : Sm := (.seq (.ife (.cmp .gt (.idx (.var 0) (.int 0)) (.int 0)) (.seq (.asg (.nm 5) (.bin .mod false (.blt .int false (.cons (.idx (.var 0) (.int 0)) .nil)) (.var 1))) (.seq (.sub (.var 0) (.int 0) (.bin .fdiv false (.idx (.var 0) (.int 0)) (.var 1))) (.seq (.ret (.var 5)) .nil))) .nil) (.seq (.sub (.var 0) (.int 2) (.bin .add false (.idx (.var 0) (.int 2)) (.int 1))) (.seq (.asg (.nm 2) (.bin .mod false (.blt .int false (.cons (.bin .mul false (.bin .add false (.idx (.var 0) (.int 1)) (.bin .mul false (.int 48271) (.idx (.var 0) (.int 2)))) (.bin .add false (.int 39373) (.idx (.var 0) (.int 2)))) .nil)) (.int 2147483647))) (.seq (.asg (.nm 3) (.bin .add false (.bin .mod false (.blt .int false (.cons (.var 2) .nil)) (.int 40009)) (.int 7))) (.seq (.asg (.nm 4) (.bin .mod false (.blt .int false (.cons (.bin .mul false (.bin .add false (.bin .add false (.var 2) (.idx (.var 0) (.int 2))) (.bin .fdiv false (.idx (.var 0) (.int 1)) (.int 1000003))) (.var 3)) .nil)) (.int 2147483629))) (.seq (.ret (.bin .mod false (.blt .int false (.cons (.bin .fdiv false (.bin .mod false (.blt .int false (.cons (.bin .add false (.bin .mul false (.var 4) (.int 48271)) (.var 2)) .nil)) (.int 2147483587)) (.int 64)) .nil)) (.var 1))) .nil))))))
def bCells : Sm := (.seq (.asg (.nm 2) (.or (.blt .list true (.cons (.slc false (.var 0) .abs (.prt (.var 1))) .nil)) (.lst true (.cons (.int 0) .nil)))) (.seq (.for (.tup (.cons (.nm 3) (.cons (.nm 4) .nil))) (.ienu (.slc false (.var 0) (.prt (.var 1)) (.prt (.int 63)))) (.seq (.asg (.nm 5) (.bin .mod false (.blt .int false (.cons (.var 3) .nil)) (.var 1))) (.seq (.sub (.var 2) (.var 5) (.bin .add false (.idx (.var 2) (.var 5)) (.bin .mul false (.var 4) (.bin .add false (.var 3) (.int 2))))) .nil))) (.seq (.frz 2) (.seq (.ret (.var 2)) .nil))))
def bBox (seed : Int) : Sm := (.seq (.asg (.nm 2) (.ite (.cmp .lt (.var 1) (.blt .len false (.cons (.var 0) .nil))) (.idx (.var 0) (.var 1)) (.int 0))) (.seq (.ret (.lst true (.cons (.bin .mul false (.blt .abs false (.cons (.var 2) .nil)) (.blt .int false (.cons (.cmp .ge (.blt .abs false (.cons (.var 2) .nil)) (.bin .pow false (.int 10) (.int 18))) .nil))) (.cons (.bin .add false (.bin .add false (.bin .mod false (.blt .int false (.cons (.var 2) .nil)) (.int 2305843009213693951)) (.bin .mul false (.int 39373) (.var 1))) (.int seed)) (.cons (.int 0) .nil))))) .nil))
section
variable {tf : Nat → Option Fn} {cons : Nat → Option PV} {isx : Nat → String → Bool} {call : Nat → List PV → Sto → R PV} {wf k nb : Nat}
theorem ilt_f {a b : Int} (h : b ≤ a) : ilt a b = false := by
  rw [ilt_eq]
  apply decide_eq_false
  omega
theorem ilt_t {a b : Int} (h : a < b) : ilt a b = true := by
  rw [ilt_eq]
  exact decide_eq_true h
theorem small_of {i : Int} (h : -10000000000000 < i) (h2 : i < 10000000000000) : small64 i = true := by
  unfold small64
  rw [ilt_t (by omega), ilt_t (by omega)]
  rfl
/-- a draw: from 0 below b -/
theorem take_sx {t0 t1 t2 b : Int} (hb : 0 < b) (hb2 : b < 10000000000000) (h0 : 0 ≤ t0) (h2 : 0 ≤ t2) (h3 : t2 < 1000000000) : ∃ d t0' t2' : Int, sx call cons isx nb wf bTake [some (.box 0), some (.int b), none, none, none, none] [some [.int t0, .int t1, .int t2]] = .rt (.int d) [some [.int t0', .int t1, .int t2']] ∧
    0 ≤ d ∧ d < b ∧ 0 ≤ t0' ∧ t0' ≤ t0 ∧ t2 ≤ t2' ∧ t2' ≤ t2 + 1 := by
  by_cases ht : 0 < t0
  · refine ⟨t0 % b, t0 / b, t2, ?_, Int.emod_nonneg _ (by omega), Int.emod_lt_of_pos _ hb, Int.ediv_nonneg h0 (by omega), Int.ediv_le_self _ h0, Int.le_refl _, by omega⟩
    have e1 : ilt 0 t0 = true := ilt_t ht
    have e2 : ilt 0 b = true := ilt_t hb
    have e3 : ilt b 18446744073709551616 = true := ilt_t (by omega)
    simp [bTake, sx, ev, F.then, onR, onO, R.bind, withO, withL, getV, idxV, seqOf, getB, opt, getI, ixN, cmpop, cmpI, truth, blt, binop, store, putI, e1, e2, e3]
  · have e1 : ilt 0 t0 = false := ilt_f (by omega)
    have e2 : ilt 0 b = true := ilt_t hb
    have s1 : small64 (39373 + (t2 + 1)) = true := small_of (by omega) (by omega)
    have s0 : small64 48271 = true := by decide
    generalize hq : ((t1 + 48271 * (t2 + 1)) * (39373 + (t2 + 1))) % 2147483647 = o
    have ho : 0 ≤ o ∧ o < 2147483647 := by
      rw [← hq]
      refine ⟨Int.emod_nonneg _ (by decide), Int.emod_lt_of_pos _ (by decide)⟩
    have s2 : small64 (o % 40009 + 7) = true := small_of (by omega) (by omega)
    generalize hq2 : ((o + (t2 + 1) + t1 / 1000003) * (o % 40009 + 7)) % 2147483629 = w
    have hw : 0 ≤ w ∧ w < 2147483629 := by
      rw [← hq2]
      refine ⟨Int.emod_nonneg _ (by decide), Int.emod_lt_of_pos _ (by decide)⟩
    refine ⟨((w * 48271 + o) % 2147483587 / 64) % b, t0, t2 + 1, ?_, Int.emod_nonneg _ (by omega), Int.emod_lt_of_pos _ hb, h0, Int.le_refl _, by omega, Int.le_refl _⟩
    have e4 : ilt 0 2147483647 = true := by decide
    have e5 : ilt 0 40009 = true := by decide
    have e6 : ilt 0 1000003 = true := by decide
    have e7 : ilt 1000003 18446744073709551616 = true := by decide
    have e8 : ilt 0 2147483629 = true := by decide
    have e9 : ilt 0 2147483587 = true := by decide
    have e10 : ilt 0 64 = true := by decide
    have e11 : ilt 64 18446744073709551616 = true := by decide
    simp [bTake, sx, ev, F.then, onR, onO, R.bind, withO, withL, getV, idxV, seqOf, getB, opt, getI, ixN, cmpop, cmpI, truth, blt, binop, addop, mulop, store, putI, e1, e2, s1, s0, s2, hq, hq2, e4, e5, e6, e7, e8, e9, e10, e11]

def endR : F → R PV
  | .nx _ S1 => .ok .non S1
  | .rt v S1 => .ok v S1
  | .ex c _ S1 => .ex c S1
  | _ => .no
theorem run_fn {n : Nat} {d : Fn} {vs : List PV} {S : Sto} (h : tf n = some d) (hl : vs.length = d.np) : run tf cons isx wf (k + 1) n vs S = endR (sx (run tf cons isx wf k) cons isx S.length wf d.body (vs.map some ++ List.replicate (d.ns - d.np) none) S) := by
  show withO (tf n) _ = _
  rw [h]
  have e : Nat.beq vs.length d.np = true := by
    rw [hl]
    exact Nat.beq_refl _
  show (if Nat.beq vs.length d.np then _ else _) = _
  rw [if_pos e]
  rfl
theorem putBack_nil {S S1 : Sto} : putBack S [] S1 = S := by
  cases S1 <;> rfl
theorem putBack_one {S : Sto} {n : Nat} {l : Option (List PV)} {S1 : Sto} : putBack S [n] (l :: S1) = S.set n l := by
  cases S1 <;> rfl
/-- a draw, called -/
theorem take_call {i n : Nat} {t0 t1 t2 b : Int} {S : Sto} (h : tf i = some ⟨2, 6, bTake⟩) (hS : getB S n = some [.int t0, .int t1, .int t2]) (hb : 0 < b) (hb2 : b < 10000000000000) (h0 : 0 ≤ t0) (h2 : 0 ≤ t2) (h3 : t2 < 1000000000) :
    ∃ d t0' t2' : Int, invoke (run tf cons isx wf (k + 1) i) [.box n, .int b] S = .ok (.int d) (S.set n (some [.int t0', .int t1, .int t2'])) ∧ 0 ≤ d ∧ d < b ∧ 0 ≤ t0' ∧ t0' ≤ t0 ∧ t2 ≤ t2' ∧ t2' ≤ t2 + 1 := by
  obtain ⟨d, t0', t2', e, rest⟩ := take_sx (call := run tf cons isx wf k) (cons := cons) (isx := isx) (nb := 1) (wf := wf) (t1 := t1) hb hb2 h0 h2 h3
  refine ⟨d, t0', t2', ?_, rest⟩
  have r : run tf cons isx wf (k + 1) i [.box 0, .int b] [some [.int t0, .int t1, .int t2]] = .ok (.int d) [some [.int t0', .int t1, .int t2']] := by
    rw [run_fn h rfl]
    show endR (sx (run tf cons isx wf k) cons isx 1 wf bTake [some (.box 0), some (.int b), none, none, none, none] [some [.int t0, .int t1, .int t2]]) = _
    rw [e]
    rfl
  unfold invoke
  have c : (nodup (boxes [.box n, .int b]) && okArgs [.box n, .int b]) = true := rfl
  rw [if_pos c]
  show (match grab S [n] with | some S0 => _ | none => _) = _
  have g : grab S [n] = some [some [.int t0, .int t1, .int t2]] := by
    show (match getB S n, grab S [] with | some l, some ls => some (some l :: ls) | _, _ => none) = _
    rw [hS]
    rfl
  rw [g]
  show (if plainS [some [.int t0, .int t1, .int t2]] then match run tf cons isx wf (k + 1) i [.box 0, .int b] [some [.int t0, .int t1, .int t2]] with
      | .ok v S1 => if plainS (S1.take 1) then giveBack [n] v (putBack S [n] S1) S1 else .no
      | .ex c S1 => if PV.nobs c.args && plainS (S1.take 1) then .ex c (putBack S [n] S1) else .no
      | .no => .no else .no) = _
  rw [if_pos (show plainS [some [.int t0, .int t1, .int t2]] = true from rfl), r]
  show (if plainS [some [.int t0', .int t1, .int t2']] then giveBack [n] (.int d) (putBack S [n] [some [.int t0', .int t1, .int t2']]) [some [.int t0', .int t1, .int t2']] else .no) = _
  rw [if_pos (show plainS [some [.int t0', .int t1, .int t2']] = true from rfl), putBack_one]
  rfl
/-- a call that is handed no list of the store -/
theorem plain_call {f : List PV → Sto → R PV} {vs : List PV} {v : PV} {S S1 : Sto} (hb : boxes vs = []) (ha : okArgs vs = true) (hr : renum 0 vs = vs) (hv : v.nob = true) (nb : ∀ n, v ≠ .box n) (h : f vs [] = .ok v S1) : invoke f vs S = .ok v S := by
  unfold invoke
  rw [hb, hr]
  rw [if_pos (show (nodup [] && okArgs vs) = true by rw [ha]; rfl)]
  show (if plainS [] then match f vs [] with
      | .ok v S1 => if plainS (S1.take 0) then giveBack [] v (putBack S [] S1) S1 else .no
      | .ex c S1 => if PV.nobs c.args && plainS (S1.take 0) then .ex c (putBack S [] S1) else .no
      | .no => .no else .no) = _
  rw [if_pos (show plainS [] = true from rfl), h]
  show (if plainS (S1.take 0) then giveBack [] v (putBack S [] S1) S1 else .no) = _
  rw [show S1.take 0 = [] from rfl, if_pos (show plainS [] = true from rfl), putBack_nil]
  unfold giveBack
  cases v with
  | box n => exact absurd rfl (nb n)
  | _ => first | (rw [if_pos hv]) | (simp only [hv, if_true])
/-- .. and tells a new list -/
theorem new_call {f : List PV → Sto → R PV} {vs : List PV} {l : List PV} {S S1 : Sto} {n : Nat} (hb : boxes vs = []) (ha : okArgs vs = true) (hr : renum 0 vs = vs) (hl : getB S1 n = some l) (hn : PV.nobs l = true) (h : f vs [] = .ok (.box n) S1) : invoke f vs S = .ok (.box S.length) (S ++ [some l]) := by
  unfold invoke
  rw [hb, hr]
  rw [if_pos (show (nodup [] && okArgs vs) = true by rw [ha]; rfl)]
  show (if plainS [] then match f vs [] with
      | .ok v S1 => if plainS (S1.take 0) then giveBack [] v (putBack S [] S1) S1 else .no
      | .ex c S1 => if PV.nobs c.args && plainS (S1.take 0) then .ex c (putBack S [] S1) else .no
      | .no => .no else .no) = _
  rw [if_pos (show plainS [] = true from rfl), h]
  show (if plainS (S1.take 0) then giveBack [] (.box n) (putBack S [] S1) S1 else .no) = _
  rw [show S1.take 0 = [] from rfl, if_pos (show plainS [] = true from rfl), putBack_nil]
  show (match ([] : List Nat)[n]? with
    | some b => R.ok (PV.box b) S
    | none => match getB S1 n with
      | some l => if PV.nobs l then R.ok (PV.box S.length) (S ++ [some l]) else R.no
      | none => R.no) = _
  rw [show ([] : List Nat)[n]? = none from by simp, hl]
  exact if_pos hn
theorem ints_nob : ∀ l : List Int, PV.nobs (l.map .int) = true
  | [] => rfl
  | i :: r => by
    show (PV.nob (.int i) && PV.nobs (r.map .int)) = true
    rw [ints_nob r]
    rfl
/-- the source of draws -/
theorem box_call {i : Nat} {seed : Int} {cs : List Int} {j : Nat} {S : Sto} (h : tf i = some ⟨2, 3, bBox seed⟩) (hj : j < cs.length) : ∃ t0 t1 : Int, invoke (run tf cons isx wf (k + 1) i) [.lst (cs.map .int), .int (j : Int)] S = .ok (.box S.length) (S ++ [some [.int t0, .int t1, .int 0]]) ∧ 0 ≤ t0 := by
  let c := cs.getD j 0
  let a := if ilt c 0 then -c else c
  let g : Int := if ile 1000000000000000000 a then 1 else 0
  have ha : 0 ≤ a := by
    show 0 ≤ (if ilt c 0 then -c else c)
    rw [ilt_eq]
    by_cases hc : c < 0
    · rw [decide_eq_true hc]
      show 0 ≤ -c
      omega
    · rw [decide_eq_false hc]
      show 0 ≤ c
      omega
  have hg : 0 ≤ g := by
    show 0 ≤ (if ile 1000000000000000000 a then (1 : Int) else 0)
    cases ile 1000000000000000000 a <;> decide
  have sg : small64 g = true := by
    show small64 (if ile 1000000000000000000 a then (1 : Int) else 0) = true
    cases ile 1000000000000000000 a <;> decide
  refine ⟨a * g, c % 2305843009213693951 + 39373 * j + seed, ?_, Int.mul_nonneg ha hg⟩
  have r : run tf cons isx wf (k + 1) i [.lst (cs.map .int), .int (j : Int)] [] = .ok (.box 0) [some [.int (a * g), .int (c % 2305843009213693951 + 39373 * j + seed), .int 0]] := by
    rw [run_fn h rfl]
    have e1 : ilt (j : Int) (cs.length : Int) = true := ilt_t (by omega)
    have e2 : (cs.map PV.int)[j]? = some (.int c) := by
      rw [List.getElem?_map, List.getElem?_eq_getElem hj]
      show some (PV.int cs[j]) = some (.int (cs.getD j 0))
      rw [List.getD_eq_getElem?_getD, List.getElem?_eq_getElem hj]
      rfl
    have e3 : ilt 0 2305843009213693951 = true := by decide
    have e4 : ile 0 18 = true := by decide
    have e5 : ile 18 1000 = true := by decide
    have e6 : small64 10 = true := by decide
    have e7 : small64 39373 = true := by decide
    have e8 : Nat.blt j cs.length = true := Nat.ble_eq_true_of_le hj
    have e9 : 3 ≤ lim := by decide
    have sg : small64 (if ile 1000000000000000000 (if ilt c 0 = true then -c else c) = true then 1 else 0) = true := sg
    simp [bBox, sx, ev, F.then, onR, onO, R.bind, withO, withL, getV, idxV, seqOf, getB, opt, getI, ixN, cmpop, cmpI, truth, blt, binop, addop, mulop, store, mk, e1, e2, e3, e4, e5, e6, e7, e8, e9, sg, a, g]
    rfl
  exact new_call rfl (by simp [okArgs, PV.nob, ints_nob]) rfl rfl rfl r

/-! ### the script's first numbers -/
theorem cut_to {l : List PV} {M : Nat} : cut l none (some (M : Int)) = l.take M := by
  show (l.drop 0).take ((if Nat.ble M l.length then M else l.length) - 0) = l.take M
  cases h : Nat.ble M l.length with
  | true => rfl
  | false =>
    have q : ¬ M ≤ l.length := fun z => by
      rw [Nat.ble_eq_true_of_le z] at h
      cases h
    show l.take l.length = l.take M
    rw [List.take_length, List.take_of_length_le (by omega)]
theorem cut_from {l : List PV} {M : Nat} (h : l.length ≤ 63) : cut l (some (M : Int)) (some 63) = l.drop M := by
  show (l.drop (if Nat.ble M l.length then M else l.length)).take ((if Nat.ble 63 l.length then 63 else l.length) - (if Nat.ble M l.length then M else l.length)) = l.drop M
  have e : (if Nat.ble 63 l.length then 63 else l.length) = l.length := by
    cases q : Nat.ble 63 l.length with
    | true =>
      have := Nat.le_of_ble_eq_true q
      show 63 = l.length
      omega
    | false => rfl
  rw [e]
  cases q : Nat.ble M l.length with
  | true =>
    show (l.drop M).take (l.length - M) = l.drop M
    rw [List.take_of_length_le (by rw [List.length_drop]; exact Nat.le_refl _)]
  | false =>
    have z : ¬ M ≤ l.length := fun z => by
      rw [Nat.ble_eq_true_of_le z] at q
      cases q
    show (l.drop l.length).take (l.length - l.length) = l.drop M
    rw [List.drop_length, List.drop_of_length_le (by omega), List.take_nil]
def cellsBody : Sm := (.seq (.asg (.nm 5) (.bin .mod false (.blt .int false (.cons (.var 3) .nil)) (.var 1))) (.seq (.sub (.var 2) (.var 5) (.bin .add false (.idx (.var 2) (.var 5)) (.bin .mul false (.var 4) (.bin .add false (.var 3) (.int 2))))) .nil))
theorem cells_turn {v0 p3 p4 p5 : Option PV} {M kk : Nat} {x : Int} {cs : List Int} (hM : 0 < M) (hc : cs.length = M) (hk : kk < 1000000) : ∃ (cs' : List Int) (q3 q4 q5 : Option PV), cs'.length = M ∧
    (match store [some (cs.map .int)] (.tup (.cons (.nm 3) (.cons (.nm 4) .nil))) (.tup [.int (kk : Nat), .int x]) [v0, some (.int (M : Int)), some (.box 0), p3, p4, p5] with
      | some ρ => sx call cons isx nb wf cellsBody ρ [some (cs.map .int)]
      | none => .no) = .nx [v0, some (.int (M : Int)), some (.box 0), q3, q4, q5] [some (cs'.map .int)] := by
  obtain ⟨r, hr⟩ : ∃ r, r = kk % M := ⟨_, rfl⟩
  have hlt : r < cs.length := by
    rw [hc, hr]
    exact Nat.mod_lt _ hM
  have e1 : ilt 0 (M : Int) = true := ilt_t (by omega)
  have e2 : ((kk : Int) % (M : Int)) = (r : Int) := by
    rw [hr]
    rfl
  have e3 : (cs.map PV.int)[r]? = some (.int (cs.getD r 0)) := by
    rw [List.getElem?_map, List.getElem?_eq_getElem hlt, List.getD_eq_getElem?_getD, List.getElem?_eq_getElem hlt]
    rfl
  have e4 : Nat.blt r cs.length = true := Nat.ble_eq_true_of_le hlt
  have e5 : small64 ((kk : Int) + 2) = true := small_of (by omega) (by omega)
  obtain ⟨v, hv⟩ : ∃ v, v = cs.getD r 0 := ⟨_, rfl⟩
  rw [← hv] at e3
  refine ⟨cs.set r (v + x * ((kk : Int) + 2)), some (.int (kk : Nat)), some (.int x), some (.int (r : Int)), by rw [List.length_set]; exact hc, ?_⟩
  rw [List.map_set]
  have hz : (cs.map PV.int).length = cs.length := List.length_map _
  generalize cs.map PV.int = l at e3 hz
  rw [← hz] at e4
  clear hlt hr hc hv
  have b0 : [v0, some (PV.int (M : Int)), some (.box 0), p3, p4, p5].length = 6 := rfl
  show sx call cons isx nb wf cellsBody [v0, some (.int (M : Int)), some (.box 0), some (.int (kk : Nat)), some (.int x), p5] [some l] = _
  have f1 : ∀ (ρ : Env) (S : Sto), ρ[3]? = some (some (.int (kk : Nat))) → ρ[1]? = some (some (.int (M : Int))) → ev call cons isx (.bin .mod false (.blt .int false (.cons (.var 3) .nil)) (.var 1)) ρ S = .ok (.int (r : Int)) S := fun ρ S h3 h1 => by
    simp only [ev, getV, h3, h1, R.bind, withL, blt, binop, e1, if_true, e2]
  have f2 : ∀ (ρ : Env) (S : Sto), getB S 0 = some l → ρ[2]? = some (some (.box 0)) → ρ[5]? = some (some (.int (r : Int))) → ρ[4]? = some (some (.int x)) → ρ[3]? = some (some (.int (kk : Nat))) →
      ev call cons isx (.bin .add false (.idx (.var 2) (.var 5)) (.bin .mul false (.var 4) (.bin .add false (.var 3) (.int 2)))) ρ S = .ok (.int (v + x * ((kk : Int) + 2))) S := fun ρ S hS h2 h5 h4 h3 => by
    have g : getI l (r : Int) = some (.int v) := by
      show (match (if Nat.blt r l.length then some r else none) with | some j => l[j]? | none => none) = _
      rw [if_pos e4]
      exact e3
    simp only [ev, getV, h2, h3, h4, h5, R.bind, idxV, seqOf, hS, withO, opt, g, binop, addop, mulop, e5, Bool.or_true, if_true]
  have f3 : ∀ (ρ : Env), ρ[2]? = some (some (.box 0)) → ρ[5]? = some (some (.int (r : Int))) → ρ[4]? = some (some (.int x)) → ρ[3]? = some (some (.int (kk : Nat))) →
      sx call cons isx nb wf (.sub (.var 2) (.var 5) (.bin .add false (.idx (.var 2) (.var 5)) (.bin .mul false (.var 4) (.bin .add false (.var 3) (.int 2))))) ρ [some l] = .nx ρ [some (l.set r (.int (v + x * ((kk : Int) + 2))))] := fun ρ h2 h5 h4 h3 => by
    have p : putI ρ [some l] (.box 0) (.int (r : Int)) (.int (v + x * ((kk : Int) + 2))) = .nx ρ [some (l.set r (.int (v + x * ((kk : Int) + 2))))] := by
      have q : ixN l.length (r : Int) = some r := by
        show (if Nat.blt r l.length then some r else none) = _
        exact if_pos e4
      show onO (ixN l.length (r : Int)) (fun j => F.nx ρ ([some l].set 0 (some (l.set j (.int (v + x * ((kk : Int) + 2))))))) = _
      rw [q]
      rfl
    show onR (ev call cons isx (.bin .add false (.idx (.var 2) (.var 5)) (.bin .mul false (.var 4) (.bin .add false (.var 3) (.int 2)))) ρ [some l]) ρ (fun u S1 => onR (getV ρ 2 S1) ρ fun o S2 => onR (getV ρ 5 S2) ρ fun i S3 => putI ρ S3 o i u) = _
    rw [f2 ρ [some l] rfl h2 h5 h4 h3]
    show onR (getV ρ 2 [some l]) ρ (fun o S2 => onR (getV ρ 5 S2) ρ fun i S3 => putI ρ S3 o i (.int (v + x * ((kk : Int) + 2)))) = _
    simp only [getV, h2, h5, onR]
    exact p
  unfold cellsBody
  show F.then (onR (ev call cons isx (.bin .mod false (.blt .int false (.cons (.var 3) .nil)) (.var 1)) [v0, some (.int (M : Int)), some (.box 0), some (.int (kk : Nat)), some (.int x), p5] [some l]) [v0, some (.int (M : Int)), some (.box 0), some (.int (kk : Nat)), some (.int x), p5] fun u S1 => onO (store S1 (.nm 5) u [v0, some (.int (M : Int)), some (.box 0), some (.int (kk : Nat)), some (.int x), p5]) fun ρ1 => .nx ρ1 S1)
    (fun ρ1 S1 => sx call cons isx nb wf (.seq (.sub (.var 2) (.var 5) (.bin .add false (.idx (.var 2) (.var 5)) (.bin .mul false (.var 4) (.bin .add false (.var 3) (.int 2))))) .nil) ρ1 S1) = _
  rw [f1 _ _ rfl rfl]
  show F.then (sx call cons isx nb wf (.sub (.var 2) (.var 5) (.bin .add false (.idx (.var 2) (.var 5)) (.bin .mul false (.var 4) (.bin .add false (.var 3) (.int 2))))) [v0, some (.int (M : Int)), some (.box 0), some (.int (kk : Nat)), some (.int x), some (.int (r : Int))] [some l]) (fun ρ1 S1 => sx call cons isx nb wf .nil ρ1 S1) = _
  rw [f3 _ rfl rfl rfl rfl]
  rfl

theorem cells_loop {v0 : Option PV} {M : Nat} (hM : 0 < M) {all : List PV} : ∀ (xs : List Int) (kk : Nat) (cs : List Int) (p3 p4 p5 : Option PV), cs.length = M → kk + xs.length < 1000000 → ∃ (cs' : List Int) (ρ : Env), cs'.length = M ∧ ρ[2]? = some (some (.box 0)) ∧
    forLoop none all (fun x ρ1 S2 => onO (store S2 (.tup (.cons (.nm 3) (.cons (.nm 4) .nil))) x ρ1) fun ρ2 => sx call cons isx nb wf cellsBody ρ2 S2) (enumL kk (xs.map .int)) [v0, some (.int (M : Int)), some (.box 0), p3, p4, p5] [some (cs.map .int)] = .nx ρ [some (cs'.map .int)]
  | [], kk, cs, p3, p4, p5, hc, _ => ⟨cs, _, hc, rfl, rfl⟩
  | x :: xs, kk, cs, p3, p4, p5, hc, hk => by
    have hk : kk + (xs.length + 1) < 1000000 := hk
    obtain ⟨c1, q3, q4, q5, h1, h2⟩ := cells_turn (call := call) (cons := cons) (isx := isx) (nb := nb) (wf := wf) (v0 := v0) (p3 := p3) (p4 := p4) (p5 := p5) (x := x) hM hc (show kk < 1000000 by omega)
    obtain ⟨c2, ρ, h3, h4, h5⟩ := cells_loop (v0 := v0) hM (all := all) xs (kk + 1) c1 q3 q4 q5 h1 (by omega)
    refine ⟨c2, ρ, h3, h4, ?_⟩
    have e : onO (store [some (cs.map .int)] (.tup (.cons (.nm 3) (.cons (.nm 4) .nil))) (.tup [.int (kk : Nat), .int x]) [v0, some (.int (M : Int)), some (.box 0), p3, p4, p5]) (fun ρ2 => sx call cons isx nb wf cellsBody ρ2 [some (cs.map .int)]) = .nx [v0, some (.int (M : Int)), some (.box 0), q3, q4, q5] [some (c1.map .int)] := h2
    show (match onO (store [some (cs.map .int)] (.tup (.cons (.nm 3) (.cons (.nm 4) .nil))) (.tup [.int (kk : Nat), .int x]) [v0, some (.int (M : Int)), some (.box 0), p3, p4, p5]) (fun ρ2 => sx call cons isx nb wf cellsBody ρ2 [some (cs.map .int)]) with
      | .nx ρ1 S1 => forLoop none all _ (enumL (kk + 1) (xs.map .int)) ρ1 S1
      | .ct ρ1 S1 => forLoop none all _ (enumL (kk + 1) (xs.map .int)) ρ1 S1
      | .bk ρ1 S1 => F.nx ρ1 S1
      | f => f) = _
    rw [e]
    exact h5
/-- the script's first numbers, called -/
theorem cells_call {i M : Nat} {ns : List Int} {S : Sto} (h : tf i = some ⟨2, 6, bCells⟩) (hl : ns.length ≤ 63) (hM : 0 < M) (hM2 : M ≤ 63) : ∃ cs : List Int, 0 < cs.length ∧ cs.length ≤ M ∧ invoke (run tf cons isx wf (k + 1) i) [.klst (ns.map .int), .int (M : Int)] S = .ok (.lst (cs.map .int)) S := by
  have lim1 : ∀ l : List PV, l.length ≤ 63 → Nat.ble l.length lim = true := fun l q => Nat.ble_eq_true_of_le (Nat.le_trans q (by decide))
  have hz : (ns.map PV.int).length ≤ 63 := by
    rw [List.length_map]
    exact hl
  have args : okArgs [.klst (ns.map .int), .int (M : Int)] = true := by simp [okArgs, PV.nob, ints_nob]
  have hsrc : ∀ (ρ : Env) (S0 : Sto), ρ[0]? = some (some (.klst (ns.map .int))) → ρ[1]? = some (some (.int (M : Int))) → ev (run tf cons isx wf k) cons isx (.slc false (.var 0) .abs (.prt (.var 1))) ρ S0 = .ok (.lst ((ns.take M).map .int)) S0 := fun ρ S0 h0 h1 => by
    simp only [ev, getV, h0, h1, R.bind, sliceV, seqOf, withO, slice, oint, cut_to, mk, ← List.map_take]
    rw [if_pos (lim1 _ (by rw [List.length_map, List.length_take]; omega))]
    rfl
  have hsrc2 : ∀ (ρ : Env) (S0 : Sto), ρ[0]? = some (some (.klst (ns.map .int))) → ρ[1]? = some (some (.int (M : Int))) → ev (run tf cons isx wf k) cons isx (.slc false (.var 0) (.prt (.var 1)) (.prt (.int 63))) ρ S0 = .ok (.lst ((ns.drop M).map .int)) S0 := fun ρ S0 h0 h1 => by
    simp only [ev, getV, h0, h1, R.bind, sliceV, seqOf, withO, slice, oint, cut_from hz, mk, ← List.map_drop]
    rw [if_pos (lim1 _ (by rw [List.length_map, List.length_drop]; omega))]
    rfl
  have first : ∀ (ρ : Env), ρ[0]? = some (some (.klst (ns.map .int))) → ρ[1]? = some (some (.int (M : Int))) → ev (run tf cons isx wf k) cons isx (.blt .list true (.cons (.slc false (.var 0) .abs (.prt (.var 1))) .nil)) ρ [] = .ok (.box 0) [some ((ns.take M).map .int)] := fun ρ h0 h1 => by
    show ((R.bind (ev (run tf cons isx wf k) cons isx (.slc false (.var 0) .abs (.prt (.var 1))) ρ []) fun v S1 => R.bind (R.ok (PV.lst []) S1) fun r S2 => withL r fun vs => R.ok (PV.lst (v :: vs)) S2).bind fun r S1 => withL r fun vs => blt .list true vs S1) = _
    rw [hsrc ρ [] h0 h1]
    show mk true ((ns.take M).map .int) [] = _
    unfold mk
    rw [if_pos (lim1 _ (by rw [List.length_map, List.length_take]; omega))]
    rfl
  obtain ⟨ρ0, hρ0⟩ : ∃ ρ0 : Env, ρ0 = [some (.klst (ns.map .int)), some (.int (M : Int)), none, none, none, none] := ⟨_, rfl⟩
  have st0 : ∀ v S1, store S1 (.nm 2) v ρ0 = some [some (.klst (ns.map .int)), some (.int (M : Int)), some v, none, none, none] := fun v S1 => by
    rw [hρ0]
    rfl
  have h00 : ρ0[0]? = some (some (.klst (ns.map .int))) := by rw [hρ0]; rfl
  have h01 : ρ0[1]? = some (some (.int (M : Int))) := by rw [hρ0]; rfl
  have fst_ := first ρ0 h00 h01
  -- the loop over what is left
  have loopN : ∀ (b : Nat) (S1 : Sto), (ns.drop M) = [] → sx (run tf cons isx wf k) cons isx 0 wf (.for (.tup (.cons (.nm 3) (.cons (.nm 4) .nil))) (.ienu (.slc false (.var 0) (.prt (.var 1)) (.prt (.int 63)))) cellsBody) [some (.klst (ns.map .int)), some (.int (M : Int)), some (.box b), none, none, none] S1 = .nx [some (.klst (ns.map .int)), some (.int (M : Int)), some (.box b), none, none, none] S1 := fun b S1 hd => by
    have e := hsrc2 [some (.klst (ns.map .int)), some (.int (M : Int)), some (.box b), none, none, none] S1 rfl rfl
    rw [hd] at e
    simp only [sx]
    rw [show ev (run tf cons isx wf k) cons isx (.ienu (.slc false (.var 0) (.prt (.var 1)) (.prt (.int 63)))) [some (.klst (ns.map .int)), some (.int (M : Int)), some (.box b), none, none, none] S1 = .ok (.lst []) S1 from by
      simp only [ev] at e ⊢
      rw [e]
      rfl]
    rfl
  have loopS : ∀ (c0 : List Int), c0.length = M → ∃ (c1 : List Int) (ρ : Env), c1.length = M ∧ ρ[2]? = some (some (.box 0)) ∧ sx (run tf cons isx wf k) cons isx 0 wf (.for (.tup (.cons (.nm 3) (.cons (.nm 4) .nil))) (.ienu (.slc false (.var 0) (.prt (.var 1)) (.prt (.int 63)))) cellsBody) [some (.klst (ns.map .int)), some (.int (M : Int)), some (.box 0), none, none, none] [some (c0.map .int)] = .nx ρ [some (c1.map .int)] := fun c0 hc => by
    obtain ⟨c1, ρ, q1, q2, q3⟩ := cells_loop (call := run tf cons isx wf k) (cons := cons) (isx := isx) (nb := 0) (wf := wf) (v0 := some (.klst (ns.map .int))) hM (all := enumL 0 ((ns.drop M).map .int)) (ns.drop M) 0 c0 none none none hc (by rw [List.length_drop]; omega)
    refine ⟨c1, ρ, q1, q2, ?_⟩
    have e := hsrc2 [some (.klst (ns.map .int)), some (.int (M : Int)), some (.box 0), none, none, none] [some (c0.map .int)] rfl rfl
    simp only [sx]
    rw [show ev (run tf cons isx wf k) cons isx (.ienu (.slc false (.var 0) (.prt (.var 1)) (.prt (.int 63)))) [some (.klst (ns.map .int)), some (.int (M : Int)), some (.box 0), none, none, none] [some (c0.map .int)] = .ok (.lst (enumL 0 ((ns.drop M).map .int))) [some (c0.map .int)] from by
      simp only [ev] at e ⊢
      rw [e]
      rfl]
    exact q3
  have ends : ∀ (c1 : List PV) (ρ : Env) (n : Nat) (S1 : Sto), ρ[2]? = some (some (.box n)) → getB S1 n = some c1 → endR (sx (run tf cons isx wf k) cons isx 0 wf (.seq (.frz 2) (.seq (.ret (.var 2)) .nil)) ρ S1) = .ok (.lst c1) (S1.set n none) := fun c1 ρ n S1 h2 hb => by
    have hlt : 2 < ρ.length := (List.getElem?_eq_some_iff.mp h2).1
    simp only [sx, h2, hb, onO, F.then, ev, getV, List.getElem?_set_self hlt, onR]
    rfl
  have start_ : run tf cons isx wf (k + 1) i [.klst (ns.map .int), .int (M : Int)] [] = endR (sx (run tf cons isx wf k) cons isx 0 wf bCells ρ0 []) := by
    rw [run_fn h rfl, hρ0]
    rfl
  cases hns : ns.take M with
  | nil =>
    have hd : ns.drop M = [] := by
      cases ns with
      | nil => exact List.drop_nil
      | cons x r =>
        cases M with
        | zero => exact absurd hM (Nat.lt_irrefl 0)
        | succ M => cases hns
    rw [hns] at fst_
    refine ⟨[0], Nat.zero_lt_one, hM, plain_call rfl args rfl rfl (fun n e => nomatch e) (S1 := [some [], none]) ?_⟩
    rw [start_]
    unfold bCells
    have eA : sx (run tf cons isx wf k) cons isx 0 wf (.asg (.nm 2) (.or (.blt .list true (.cons (.slc false (.var 0) .abs (.prt (.var 1))) .nil)) (.lst true (.cons (.int 0) .nil)))) ρ0 [] = .nx [some (.klst (ns.map .int)), some (.int (M : Int)), some (.box 1), none, none, none] [some [], some [.int 0]] := by
      simp only [sx]
      rw [show ev (run tf cons isx wf k) cons isx (.or (.blt .list true (.cons (.slc false (.var 0) .abs (.prt (.var 1))) .nil)) (.lst true (.cons (.int 0) .nil))) ρ0 [] = .ok (.box 1) [some [], some [.int 0]] from by
        simp only [ev] at fst_ ⊢
        rw [fst_]
        rfl]
      show onO (store _ (.nm 2) (.box 1) ρ0) _ = _
      rw [st0]
      rfl
    show endR (F.then (sx (run tf cons isx wf k) cons isx 0 wf (.asg (.nm 2) (.or (.blt .list true (.cons (.slc false (.var 0) .abs (.prt (.var 1))) .nil)) (.lst true (.cons (.int 0) .nil)))) ρ0 []) fun ρ1 S1 => F.then (sx (run tf cons isx wf k) cons isx 0 wf (.for (.tup (.cons (.nm 3) (.cons (.nm 4) .nil))) (.ienu (.slc false (.var 0) (.prt (.var 1)) (.prt (.int 63)))) cellsBody) ρ1 S1) fun ρ2 S2 => sx (run tf cons isx wf k) cons isx 0 wf (.seq (.frz 2) (.seq (.ret (.var 2)) .nil)) ρ2 S2) = _
    rw [eA]
    show endR (F.then (sx (run tf cons isx wf k) cons isx 0 wf (.for (.tup (.cons (.nm 3) (.cons (.nm 4) .nil))) (.ienu (.slc false (.var 0) (.prt (.var 1)) (.prt (.int 63)))) cellsBody) [some (.klst (ns.map .int)), some (.int (M : Int)), some (.box 1), none, none, none] [some [], some [.int 0]]) fun ρ2 S2 => sx (run tf cons isx wf k) cons isx 0 wf (.seq (.frz 2) (.seq (.ret (.var 2)) .nil)) ρ2 S2) = _
    rw [loopN 1 _ hd]
    exact ends [.int 0] [some (.klst (ns.map .int)), some (.int (M : Int)), some (.box 1), none, none, none] 1 [some [], some [.int 0]] rfl rfl
  | cons y ys =>
    have eA : sx (run tf cons isx wf k) cons isx 0 wf (.asg (.nm 2) (.or (.blt .list true (.cons (.slc false (.var 0) .abs (.prt (.var 1))) .nil)) (.lst true (.cons (.int 0) .nil)))) ρ0 [] = .nx [some (.klst (ns.map .int)), some (.int (M : Int)), some (.box 0), none, none, none] [some ((y :: ys).map .int)] := by
      rw [hns] at fst_
      simp only [sx]
      rw [show ev (run tf cons isx wf k) cons isx (.or (.blt .list true (.cons (.slc false (.var 0) .abs (.prt (.var 1))) .nil)) (.lst true (.cons (.int 0) .nil))) ρ0 [] = .ok (.box 0) [some ((y :: ys).map .int)] from by
        simp only [ev] at fst_ ⊢
        rw [fst_]
        rfl]
      show onO (store _ (.nm 2) (.box 0) ρ0) _ = _
      rw [st0]
      rfl
    have len : (y :: ys).length ≤ M := by
      rw [← hns, List.length_take]
      exact Nat.min_le_left _ _
    have fin_ : ∀ (c1 : List Int) (ρ : Env), ρ[2]? = some (some (.box 0)) → sx (run tf cons isx wf k) cons isx 0 wf (.for (.tup (.cons (.nm 3) (.cons (.nm 4) .nil))) (.ienu (.slc false (.var 0) (.prt (.var 1)) (.prt (.int 63)))) cellsBody) [some (.klst (ns.map .int)), some (.int (M : Int)), some (.box 0), none, none, none] [some ((y :: ys).map .int)] = .nx ρ [some (c1.map .int)] → invoke (run tf cons isx wf (k + 1) i) [.klst (ns.map .int), .int (M : Int)] S = .ok (.lst (c1.map .int)) S := fun c1 ρ h2 e => by
      refine plain_call rfl args rfl (by simp [PV.nob, ints_nob]) (fun n e => nomatch e) (S1 := [none]) ?_
      rw [start_]
      unfold bCells
      show endR (F.then (sx (run tf cons isx wf k) cons isx 0 wf (.asg (.nm 2) (.or (.blt .list true (.cons (.slc false (.var 0) .abs (.prt (.var 1))) .nil)) (.lst true (.cons (.int 0) .nil)))) ρ0 []) fun ρ1 S1 => F.then (sx (run tf cons isx wf k) cons isx 0 wf (.for (.tup (.cons (.nm 3) (.cons (.nm 4) .nil))) (.ienu (.slc false (.var 0) (.prt (.var 1)) (.prt (.int 63)))) cellsBody) ρ1 S1) fun ρ2 S2 => sx (run tf cons isx wf k) cons isx 0 wf (.seq (.frz 2) (.seq (.ret (.var 2)) .nil)) ρ2 S2) = _
      rw [eA]
      show endR (F.then (sx (run tf cons isx wf k) cons isx 0 wf (.for (.tup (.cons (.nm 3) (.cons (.nm 4) .nil))) (.ienu (.slc false (.var 0) (.prt (.var 1)) (.prt (.int 63)))) cellsBody) [some (.klst (ns.map .int)), some (.int (M : Int)), some (.box 0), none, none, none] [some ((y :: ys).map .int)]) fun ρ2 S2 => sx (run tf cons isx wf k) cons isx 0 wf (.seq (.frz 2) (.seq (.ret (.var 2)) .nil)) ρ2 S2) = _
      rw [e]
      exact ends _ ρ 0 _ h2 rfl
    by_cases hm : M ≤ ns.length
    · have e : (y :: ys).length = M := by
        rw [← hns, List.length_take]
        omega
      obtain ⟨c1, ρ, q1, q2, q3⟩ := loopS (y :: ys) e
      exact ⟨c1, by omega, by omega, fin_ c1 ρ q2 q3⟩
    · have hd : ns.drop M = [] := List.drop_of_length_le (by omega)
      exact ⟨y :: ys, Nat.succ_pos _, len, fin_ (y :: ys) _ rfl (loopN 0 _ hd)⟩
end
end Rn
set_option maxHeartbeats 1000007
/-! The runner told by the recursors: the same, and the kernel runs it faster. -/
namespace Rn
universe u
section
/-- a test, told by the recursor -/
theorem ite_fast {α : Sort u} (b : Bool) (x y : α) : (if b = true then x else y) = Bool.rec (motive := fun _ => α) y x b := by
  cases b <;> rfl
noncomputable def bindF {α β : Type} (r : R α) (f : α → Sto → R β) : R β := R.rec (motive := fun _ => R β) f (fun c S => .ex c S) .no r
noncomputable def wOF {α β : Type} (o : Option α) (f : α → R β) : R β := Option.rec (motive := fun _ => R β) .no f o
noncomputable def wLF {β : Type} (v : PV) (f : List PV → R β) : R β := PV.rec (motive_1 := fun _ => R β) (motive_2 := fun _ => Unit) .no (fun _ => .no) (fun _ => .no) (fun _ => .no) (fun _ _ => .no) (fun l _ => f l) (fun _ _ => .no) (fun _ => .no) (fun _ => .no) (fun _ => .no) (fun _ _ _ => .no) () (fun _ _ _ _ => ()) v
noncomputable def nRF {α : Type} (r : R α) (ρ : Env) (k : α → Sto → F) : F := R.rec (motive := fun _ => F) k (fun c S => .ex c ρ S) .no r
noncomputable def nOF {α : Type} (o : Option α) (k : α → F) : F := Option.rec (motive := fun _ => F) .no k o
noncomputable def tnF (f : F) (k : Env → Sto → F) : F := F.rec (motive := fun _ => F) k (fun ρ S => .bk ρ S) (fun ρ S => .ct ρ S) (fun v S => .rt v S) (fun c ρ S => .ex c ρ S) .no f
theorem bind_fast {α β : Type} (r : R α) (f : α → Sto → R β) : r.bind f = bindF r f := by
  cases r <;> rfl
theorem wO_fast {α β : Type} (o : Option α) (f : α → R β) : withO o f = wOF o f := by
  cases o <;> rfl
theorem wL_fast {β : Type} (v : PV) (f : List PV → R β) : withL v f = wLF v f := by
  cases v <;> rfl
theorem nR_fast {α : Type} (r : R α) (ρ : Env) (k : α → Sto → F) : onR r ρ k = nRF r ρ k := by
  cases r <;> rfl
theorem nO_fast {α : Type} (o : Option α) (k : α → F) : onO o k = nOF o k := by
  cases o <;> rfl
theorem tn_fast (f : F) (k : Env → Sto → F) : f.then k = tnF f k := by
  cases f <;> rfl
noncomputable def getF (ρ : Env) (i : Nat) (S : Sto) : R PV := List.rec (motive := fun _ => Nat → R PV) (fun _ => .no) (fun o _ ih i => Nat.rec (motive := fun _ => R PV) (Option.rec (motive := fun _ => R PV) .no (fun v => .ok v S) o) (fun j _ => ih j) i) ρ i
theorem get_fast : ∀ (ρ : Env) (i : Nat) (S : Sto), getV ρ i S = getF ρ i S
  | [], i, S => rfl
  | none :: ρ, 0, S => rfl
  | some v :: ρ, 0, S => rfl
  | o :: ρ, i + 1, S => by
    have h : getV (o :: ρ) (i + 1) S = getV ρ i S := by
      unfold getV
      rw [List.getElem?_cons_succ]
    rw [h, get_fast ρ i S]
    rfl
noncomputable def setF (v : PV) (ρ : Env) : Nat → Option Env := List.rec (motive := fun _ => Nat → Option Env) (fun _ => none) (fun o t ih i => Nat.rec (motive := fun _ => Option Env) (some (some v :: t)) (fun j _ => Option.rec (motive := fun _ => Option Env) none (fun t' => some (o :: t')) (ih j)) i) ρ
theorem set_fast {v : PV} : ∀ (ρ : Env) (i : Nat), (if Nat.blt i ρ.length then some (ρ.set i (some v)) else none) = setF v ρ i
  | [], i => rfl
  | o :: ρ, 0 => rfl
  | o :: ρ, i + 1 => by
    have h : setF v (o :: ρ) (i + 1) = Option.rec (motive := fun _ => Option Env) none (fun t' => some (o :: t')) (setF v ρ i) := rfl
    rw [h, ← set_fast ρ i]
    have e : Nat.blt (i + 1) (o :: ρ).length = Nat.blt i ρ.length := rfl
    rw [e]
    cases Nat.blt i ρ.length <;> rfl
noncomputable def stF (S : Sto) (t : Tg) : (PV → Env → Option Env) × (List PV → Env → Option Env) := Tg.rec (motive := fun _ => (PV → Env → Option Env) × (List PV → Env → Option Env))
  (fun i => (fun v ρ => setF v ρ i, fun _ _ => none))
  (fun _ _ => none, fun vs ρ => List.rec (motive := fun _ => Option Env) (some ρ) (fun _ _ _ => none) vs)
  (fun _ _ ih it => (fun _ _ => none, fun vs ρ => List.rec (motive := fun _ => Option Env) none (fun v vs _ => Option.rec (motive := fun _ => Option Env) none (fun ρ' => it.2 vs ρ') (ih.1 v ρ)) vs))
  (fun _ il => (fun v ρ => match v with
    | .tup vs => il.2 vs ρ
    | .lst vs => il.2 vs ρ
    | .box n => match getB S n with
      | some vs => il.2 vs ρ
      | none => none
    | _ => none, fun _ _ => none)) t
theorem st_fast (S : Sto) (t : Tg) : (∀ v ρ, store S t v ρ = (stF S t).1 v ρ) ∧ ∀ vs ρ, stores S t vs ρ = (stF S t).2 vs ρ := by
  induction t with
  | nm i =>
    refine ⟨fun v ρ => ?_, fun vs ρ => ?_⟩
    · simp only [store]
      exact set_fast ρ i
    · cases vs <;> simp only [stores] <;> rfl
  | nil =>
    refine ⟨fun v ρ => ?_, fun vs ρ => ?_⟩
    · simp only [store]
      rfl
    · cases vs <;> simp only [stores] <;> rfl
  | cons h t ih it =>
    refine ⟨fun v ρ => ?_, fun vs ρ => ?_⟩
    · simp only [store]
      rfl
    · cases vs with
      | nil =>
        simp only [stores]
        rfl
      | cons v vs =>
        have e : (stF S (.cons h t)).2 (v :: vs) ρ = Option.rec (motive := fun _ => Option Env) none (fun ρ' => (stF S t).2 vs ρ') ((stF S h).1 v ρ) := rfl
        rw [e, ← ih.1 v ρ]
        simp only [stores]
        cases store S h v ρ with
        | none => rfl
        | some ρ' => exact it.2 vs ρ'
  | tup l il =>
    refine ⟨fun v ρ => ?_, fun vs ρ => ?_⟩
    · have e : (stF S (.tup l)).1 v ρ = (match v with
        | .tup vs => (stF S l).2 vs ρ
        | .lst vs => (stF S l).2 vs ρ
        | .box n => match getB S n with
          | some vs => (stF S l).2 vs ρ
          | none => none
        | _ => none) := rfl
      rw [e]
      simp only [store, il.2]
      try (cases v with
        | box n => cases getB S n <;> rfl
        | _ => rfl)
    · cases vs <;> simp only [stores] <;> rfl
noncomputable def nobF (p : PV) : Bool := PV.rec (motive_1 := fun _ => Bool) (motive_2 := fun _ => Bool) true (fun _ => true) (fun _ => true) (fun _ => true) (fun _ h => h) (fun _ h => h) (fun _ h => h) (fun _ => false) (fun _ => true) (fun _ => true) (fun _ _ _ => false) true (fun _ _ h ht => Bool.rec (motive := fun _ => Bool) false ht h) p
noncomputable def nobsF (l : List PV) : Bool := PV.rec_1 (motive_1 := fun _ => Bool) (motive_2 := fun _ => Bool) true (fun _ => true) (fun _ => true) (fun _ => true) (fun _ h => h) (fun _ h => h) (fun _ h => h) (fun _ => false) (fun _ => true) (fun _ => true) (fun _ _ _ => false) true (fun _ _ h ht => Bool.rec (motive := fun _ => Bool) false ht h) l
mutual
theorem nob_fast : ∀ p : PV, p.nob = nobF p
  | .non => rfl
  | .bl _ => rfl
  | .int _ => rfl
  | .str _ => rfl
  | .tup l => (show PV.nobs l = _ from nobs_fast l)
  | .lst l => (show PV.nobs l = _ from nobs_fast l)
  | .klst l => (show PV.nobs l = _ from nobs_fast l)
  | .box _ => rfl
  | .fn _ => rfl
  | .ty _ => rfl
  | .xc _ _ => rfl
theorem nobs_fast : ∀ l : List PV, PV.nobs l = nobsF l
  | [] => rfl
  | a :: l => by
    have e : nobsF (a :: l) = Bool.rec (motive := fun _ => Bool) false (nobsF l) (nobF a) := rfl
    rw [e, ← nob_fast a, ← nobs_fast l]
    simp only [PV.nobs]
    cases a.nob <;> rfl
end
theorem nobs_args : ∀ {vs : List PV} (k : Nat), PV.nobs vs = true → boxes vs = [] ∧ okArgs vs = true ∧ renum k vs = vs
  | [], k, _ => ⟨rfl, rfl, rfl⟩
  | v :: vs, k, h => by
    have h : (v.nob && PV.nobs vs) = true := by simpa only [PV.nobs] using h
    obtain ⟨h1, h2⟩ := Bool.and_eq_true_iff.mp h
    obtain ⟨a, b, c⟩ := nobs_args (vs := vs) k h2
    cases v with
    | box n => simp [PV.nob] at h1
    | _ =>
      refine ⟨by simpa only [boxes] using a, ?_, by simp only [renum, c]⟩
      simp only [okArgs, h1, b]
      rfl
/-- what a call gives back, where no box was handed in -/
noncomputable def backF (v : PV) (S S1 : Sto) : R PV := match v with
  | .box n => match getB S1 n with
      | some l => Bool.rec (motive := fun _ => R PV) .no (.ok (.box S.length) (S ++ [some l])) (nobsF l)
      | none => .no
  | v => Bool.rec (motive := fun _ => R PV) .no (.ok v S) (nobF v)
noncomputable def invF (f : List PV → Sto → R PV) (vs : List PV) (S : Sto) : R PV := Bool.rec (motive := fun _ => R PV) (invoke f vs S) (R.rec (motive := fun _ => R PV) (fun v S1 => backF v S S1) (fun c _ => Bool.rec (motive := fun _ => R PV) .no (.ex c S) (nobsF c.args)) .no (f vs [])) (nobsF vs)
theorem back_fast (v : PV) (S : Sto) : (if v.nob = true then R.ok v S else R.no) = Bool.rec (motive := fun _ => R PV) R.no (R.ok v S) (nobF v) := by
  rw [ite_fast, nob_fast]
theorem inv_fast (f : List PV → Sto → R PV) (vs : List PV) (S : Sto) : invoke f vs S = invF f vs S := by
  unfold invF
  cases h : nobsF vs with
  | false => rfl
  | true =>
    rw [← nobs_fast] at h
    obtain ⟨a, b, c⟩ := nobs_args 0 h
    unfold invoke
    rw [a, b, c]
    have e0 : ∀ T : Sto, putBack S [] T = S := fun T => by cases T <;> rfl
    simp only [grab, plainS, List.length_nil, List.take_zero, nodup, Bool.and_self, Bool.and_true, if_true, e0]
    cases f vs [] with
    | no => rfl
    | ok v S1 =>
      show giveBack [] v S S1 = backF v S S1
      unfold giveBack backF
      cases v with
      | box n =>
        show (match getB S1 n with
          | some l => if PV.nobs l then R.ok (PV.box S.length) (S ++ [some l]) else R.no
          | none => R.no) = (match getB S1 n with
          | some l => Bool.rec (motive := fun _ => R PV) R.no (R.ok (PV.box S.length) (S ++ [some l])) (nobsF l)
          | none => R.no)
        cases getB S1 n with
        | none => rfl
        | some l =>
          show (if PV.nobs l = true then R.ok (PV.box S.length) (S ++ [some l]) else R.no) = Bool.rec (motive := fun _ => R PV) R.no (R.ok (PV.box S.length) (S ++ [some l])) (nobsF l)
          rw [ite_fast, nobs_fast]
      | non => exact (back_fast .non S).trans rfl
      | bl q => exact (back_fast (.bl q) S).trans rfl
      | int q => exact (back_fast (.int q) S).trans rfl
      | str q => exact (back_fast (.str q) S).trans rfl
      | tup q => exact (back_fast (.tup q) S).trans rfl
      | lst q => exact (back_fast (.lst q) S).trans rfl
      | klst q => exact (back_fast (.klst q) S).trans rfl
      | fn q => exact (back_fast (.fn q) S).trans rfl
      | ty q => exact (back_fast (.ty q) S).trans rfl
      | xc q r => exact (back_fast (.xc q r) S).trans rfl
    | ex c S1 =>
      show (if PV.nobs c.args = true then R.ex c S else .no) = _
      rw [ite_fast, nobs_fast]
end

section
variable (call : Nat → List PV → Sto → R PV) (cons : Nat → Option PV) (isx : Nat → String → Bool)
noncomputable def evF (e : Ex) : Env → Sto → R PV := Ex.rec (motive := fun _ => Env → Sto → R PV)
  (fun _ S => .ok .non S)
  (fun b _ S => .ok (.bl b) S)
  (fun i _ S => .ok (.int i) S)
  (fun x _ S => .ok (.str x) S)
  (fun t _ S => .ok (.ty t) S)
  (fun i ρ S => getF ρ i S)
  (fun f _ S => .ok (.fn f) S)
  (fun g _ S => opt (cons g) S)
  (fun _ S => .ok (.lst []) S)
  (fun h t ih it ρ S => bindF (ih ρ S) fun v S1 => bindF (it ρ S1) fun r S2 => wLF r fun vs => .ok (.lst (v :: vs)) S2)
  (fun es ies ρ S => bindF (ies ρ S) fun r S1 => wLF r fun vs => mkT vs S1)
  (fun bx es ies ρ S => bindF (ies ρ S) fun r S1 => wLF r fun vs => mk bx vs S1)
  (fun o bx a b ia ib ρ S => bindF (ia ρ S) fun v S1 => bindF (ib ρ S1) fun w S2 => binop o bx v w S2)
  (fun a ia ρ S => bindF (ia ρ S) fun v S1 => match v with
    | .int i => .ok (.int (-i)) S1
    | _ => .no)
  (fun a ia ρ S => bindF (ia ρ S) fun v S1 => wOF (truth S1 v) fun b => .ok (.bl (!b)) S1)
  (fun a b ia ib ρ S => bindF (ia ρ S) fun v S1 => wOF (truth S1 v) fun t => Bool.rec (motive := fun _ => _) (.ok v S1) (ib ρ S1) t)
  (fun a b ia ib ρ S => bindF (ia ρ S) fun v S1 => wOF (truth S1 v) fun t => Bool.rec (motive := fun _ => _) (ib ρ S1) (.ok v S1) t)
  (fun o a b ia ib ρ S => bindF (ia ρ S) fun v S1 => bindF (ib ρ S1) fun w S2 => wOF (cmpop o v w S2) fun r => .ok (.bl r) S2)
  (fun o o' a b d ia ib id ρ S => bindF (ia ρ S) fun v S1 => bindF (ib ρ S1) fun w S2 => wOF (cmpop o v w S2) fun r =>
      Bool.rec (motive := fun _ => _) (.ok (.bl false) S2) (bindF (id ρ S2) fun z S3 => wOF (cmpop o' w z S3) fun r => .ok (.bl r) S3) r)
  (fun t a b it ia ib ρ S => bindF (it ρ S) fun v S1 => wOF (truth S1 v) fun t => Bool.rec (motive := fun _ => _) (ib ρ S1) (ia ρ S1) t)
  (fun a b ia ib ρ S => bindF (ia ρ S) fun v S1 => bindF (ib ρ S1) fun i S2 => idxV v i S2)
  (fun bx a lo hi ia ilo ihi ρ S => bindF (ia ρ S) fun v S1 => bindF (ilo ρ S1) fun l S2 => bindF (ihi ρ S2) fun h S3 => sliceV bx v l h S3)
  (fun _ S => .ok .non S)
  (fun e ie ρ S => bindF (ie ρ S) fun v S1 => match v with
    | .int i => .ok (.int i) S1
    | _ => .no)
  (fun bx a ia ρ S => bindF (ia ρ S) fun v S1 => revV bx v S1)
  (fun bx a lo k ia ilo ρ S => bindF (ia ρ S) fun v S1 => bindF (ilo ρ S1) fun l S2 => evrV bx v l k S2)
  (fun bx own cl icl ρ S => bindF (icl (wipes ρ own) S) fun r S1 => wLF r fun vs => mk bx vs S1)
  (fun t it cond rest iit icond irest ρ S => bindF (iit ρ S) fun v S1 => wOF (items S1 v) fun l =>
      bindF (lcLoop (boxOf v) l (fun x S2 => wOF ((stF S2 t).1 x ρ) fun ρ' => bindF (icond ρ' S2) fun w S3 => wOF (truth S3 w) fun b =>
        Bool.rec (motive := fun _ => _) (.ok [] S3) (bindF (irest ρ' S3) fun r S4 => wLF r fun vs => .ok vs S4) b) l S1) fun vs S5 => .ok (.lst vs) S5)
  (fun e ie ρ S => bindF (ie ρ S) fun v S1 => .ok (.lst [v]) S1)
  (fun es ies ρ S => bindF (ies ρ S) fun r S1 => wLF r fun vs => wOF (rangeOf vs) fun l => .ok (.lst l) S1)
  (fun e ie ρ S => bindF (ie ρ S) fun v S1 => match v with
    | .lst l => .ok (.lst (enumL 0 l)) S1
    | .klst l => .ok (.lst (enumL 0 l)) S1
    | .tup l => .ok (.lst (enumL 0 l)) S1
    | _ => .no)
  (fun a b ia ib ρ S => bindF (ia ρ S) fun v S1 => bindF (ib ρ S1) fun w S2 => wOF (seqOf S2 v) fun x => wOF (seqOf S2 w) fun y =>
      match boxOf v, boxOf w with
      | none, none => .ok (.lst (zipL x y)) S2
      | _, _ => .no)
  (fun a b c ia ib ic ρ S => bindF (ia ρ S) fun v S1 => bindF (ib ρ S1) fun w S2 => bindF (ic ρ S2) fun u S3 => wOF (seqOf S3 v) fun x => wOF (seqOf S3 w) fun y => wOF (seqOf S3 u) fun z =>
      match boxOf v, boxOf w, boxOf u with
      | none, none, none => .ok (.lst (zipT x y z)) S3
      | _, _, _ => .no)
  (fun f es ies ρ S => bindF (ies ρ S) fun r S1 => wLF r fun vs => invF (call f) vs S1)
  (fun f es ies ρ S => bindF (ies ρ S) fun r S1 => wLF r fun vs => lend (call f) vs S1)
  (fun f ix es ies ρ S => bindF (ies ρ S) fun r S1 => wLF r fun vs => wOF (perm ix vs) fun ws => invF (call f) ws S1)
  (fun e es ie ies ρ S => bindF (ie ρ S) fun v S1 => match v with
    | .fn f => bindF (ies ρ S1) fun r S2 => wLF r fun vs => invF (call f) vs S2
    | _ => .no)
  (fun b bx es ies ρ S => bindF (ies ρ S) fun r S1 => wLF r fun vs => blt b bx vs S1)
  (fun m bx o es io ies ρ S => bindF (io ρ S) fun v S1 => wOF (seqOf S1 v) fun _ => bindF (ies ρ S1) fun r S2 => wLF r fun vs => mth m v vs S2)
  (fun es d ies id ρ S => bindF (ies ρ S) fun v S1 => bindF (id ρ S1) fun w S2 => wOF (lstOf S2 v) fun l => wOF (intsL l) fun l => match imax l with
    | some i => .ok (.int i) S2
    | none => .ok w S2)
  (fun o io ρ S => bindF (io ρ S) fun v S1 => match v with
    | .xc _ [v] => .ok v S1
    | _ => .no)
  (fun o t io ρ S => bindF (io ρ S) fun v S1 => match v with
    | .xc c _ => .ok (.bl (isx c t)) S1
    | _ => .no)
  (fun e ie ρ S => bindF (ie ρ S) fun v S1 => match v with
    | .box n => wOF (getB S1 n) fun l => .ok (.lst l) (S1.set n none)
    | v => .ok v S1)
  e
noncomputable def smF (nb wf : Nat) (s : Sm) : (Env → Sto → F) × (Xc → Env → Sto → F) := Sm.rec (motive := fun _ => (Env → Sto → F) × (Xc → Env → Sto → F))
  (fun ρ S => .nx ρ S, fun x ρ S => .ex x ρ S)
  (fun s r is ir => (fun ρ S => tnF (is.1 ρ S) fun ρ1 S1 => ir.1 ρ1 S1, fun _ _ _ => .no))
  (fun t e => (fun ρ S => nRF (evF call cons isx e ρ S) ρ fun v S1 => nOF ((stF S1 t).1 v ρ) fun ρ1 => .nx ρ1 S1, fun _ _ _ => .no))
  (fun t es => (fun ρ S => nRF (evF call cons isx es ρ S) ρ fun v S1 => match v with
    | .lst vs => nOF ((stF S1 t).2 vs ρ) fun ρ1 => .nx ρ1 S1
    | _ => .no, fun _ _ _ => .no))
  (fun o i e => (fun ρ S => nRF (evF call cons isx e ρ S) ρ fun v S1 => nRF (evF call cons isx o ρ S1) ρ fun o S2 => nRF (evF call cons isx i ρ S2) ρ fun i S3 => putI ρ S3 o i v, fun _ _ _ => .no))
  (fun i o e => (fun ρ S => nRF (getF ρ i S) ρ fun a S0 => nRF (evF call cons isx e ρ S0) ρ fun b S1 => nOF (augO o a b) fun v => .nx (ρ.set i (some v)) S1, fun _ _ _ => .no))
  (fun a i o e => (fun ρ S => nRF (evF call cons isx a ρ S) ρ fun a S1 => nRF (evF call cons isx i ρ S1) ρ fun i S2 => nOF (augG S2 a i) fun x => nRF (evF call cons isx e ρ S2) ρ fun y S3 => nOF (augO o x y) fun v => putI ρ S3 a i v, fun _ _ _ => .no))
  (fun o e => (fun ρ S => nRF (evF call cons isx o ρ S) ρ fun o S1 => match o with
    | .box n => nOF (getB S1 n) fun _ => nRF (evF call cons isx e ρ S1) ρ fun v S2 => nOF (getB S2 n) fun l => Bool.rec (motive := fun _ => F) .no (.nx ρ (S2.set n (some (l ++ [v])))) (Nat.blt l.length lim)
    | _ => .no, fun _ _ _ => .no))
  (fun o => (fun ρ S => nRF (evF call cons isx o ρ S) ρ fun o S1 => match o with
    | .box n => nOF (getB S1 n) fun l => match l with
      | [] => .no
      | x :: xs => .nx ρ (S1.set n (some (x :: xs).dropLast))
    | _ => .no, fun _ _ _ => .no))
  (fun e => (fun ρ S => nRF (evF call cons isx e ρ S) ρ fun _ S1 => .nx ρ S1, fun _ _ _ => .no))
  (fun t a b ia ib => (fun ρ S => nRF (evF call cons isx t ρ S) ρ fun v S1 => nOF (truth S1 v) fun t => Bool.rec (motive := fun _ => _) (ib.1 ρ S1) (ia.1 ρ S1) t, fun _ _ _ => .no))
  (fun t it b ib => (fun ρ S => nRF (evF call cons isx it ρ S) ρ fun v S1 => nOF (items S1 v) fun l =>
      forLoop (boxOf v) l (fun x ρ1 S2 => nOF ((stF S2 t).1 x ρ1) fun ρ2 => ib.1 ρ2 S2) l ρ S1, fun _ _ _ => .no))
  (fun t b ib => (fun ρ S => whlLoop (fun ρ1 S1 => bindF (evF call cons isx t ρ1 S1) fun v S2 => opt (truth S2 v) S2) (fun ρ1 S1 => ib.1 ρ1 S1) wf ρ S, fun _ _ _ => .no))
  (fun e => (fun ρ S => nRF (evF call cons isx e ρ S) ρ fun v S1 => .rt v S1, fun _ _ _ => .no))
  (fun ρ S => .rt .non S, fun _ _ _ => .no)
  (fun ρ S => .bk ρ S, fun _ _ _ => .no)
  (fun ρ S => .ct ρ S, fun _ _ _ => .no)
  (fun ρ S => .nx ρ S, fun _ _ _ => .no)
  (fun c es => (fun ρ S => nRF (evF call cons isx es ρ S) ρ fun v S1 => match v with
    | .lst vs => .ex ⟨c, vs⟩ ρ S1
    | _ => .no, fun _ _ _ => .no))
  (fun b hs ib ihs => (fun ρ S => match ib.1 ρ S with
    | .ex c ρ1 S1 => ihs.2 c ρ1 S1
    | f => f, fun _ _ _ => .no))
  (fun c n b r ib ir => (fun _ _ => .no, fun x ρ S => if isx x.cls "ValueError" || isx x.cls "LookupError" then if Nat.beq c x.cls then match n with
      | none => match ib.1 ρ S with
        | .ex _ _ _ => .no
        | f => f
      | some i => if noxE ρ && noxS S && x.args.isEmpty then match ib.1 (ρ.set i (some (.xc x.cls x.args))) S with
        | .nx ρ1 S1 => if noxE (ρ1.set i none) && noxS S1 then .nx (ρ1.set i none) S1 else .no
        | .rt v S1 => if v.nox && noxS S1 then .rt v S1 else .no
        | _ => .no else .no
    else ir.2 x ρ S else .no))
  (fun i => (fun ρ S => match ρ[i]? with
    | some (some (.box n)) => nOF (getB S n) fun l => .nx (ρ.set i (some (.lst l))) (S.set n none)
    | _ => .nx ρ S, fun _ _ _ => .no))
  (fun ρ S => .nx ρ S, fun _ _ _ => .no)
  s
theorem ev_fast (e : Ex) : ev call cons isx e = evF call cons isx e := by
  induction e with
  | non =>
    funext ρ S
    simp only [ev, bind_fast, wO_fast, wL_fast, nR_fast, nO_fast, tn_fast, ite_fast, get_fast, inv_fast, (st_fast _ _).1, (st_fast _ _).2]
    rfl
  | bl b =>
    funext ρ S
    simp only [ev, bind_fast, wO_fast, wL_fast, nR_fast, nO_fast, tn_fast, ite_fast, get_fast, inv_fast, (st_fast _ _).1, (st_fast _ _).2]
    rfl
  | int i =>
    funext ρ S
    simp only [ev, bind_fast, wO_fast, wL_fast, nR_fast, nO_fast, tn_fast, ite_fast, get_fast, inv_fast, (st_fast _ _).1, (st_fast _ _).2]
    rfl
  | str x =>
    funext ρ S
    simp only [ev, bind_fast, wO_fast, wL_fast, nR_fast, nO_fast, tn_fast, ite_fast, get_fast, inv_fast, (st_fast _ _).1, (st_fast _ _).2]
    rfl
  | gty t =>
    funext ρ S
    simp only [ev, bind_fast, wO_fast, wL_fast, nR_fast, nO_fast, tn_fast, ite_fast, get_fast, inv_fast, (st_fast _ _).1, (st_fast _ _).2]
    rfl
  | var i =>
    funext ρ S
    simp only [ev, bind_fast, wO_fast, wL_fast, nR_fast, nO_fast, tn_fast, ite_fast, get_fast, inv_fast, (st_fast _ _).1, (st_fast _ _).2]
    rfl
  | gfn f =>
    funext ρ S
    simp only [ev, bind_fast, wO_fast, wL_fast, nR_fast, nO_fast, tn_fast, ite_fast, get_fast, inv_fast, (st_fast _ _).1, (st_fast _ _).2]
    rfl
  | gcn g =>
    funext ρ S
    simp only [ev, bind_fast, wO_fast, wL_fast, nR_fast, nO_fast, tn_fast, ite_fast, get_fast, inv_fast, (st_fast _ _).1, (st_fast _ _).2]
    rfl
  | nil =>
    funext ρ S
    simp only [ev, bind_fast, wO_fast, wL_fast, nR_fast, nO_fast, tn_fast, ite_fast, get_fast, inv_fast, (st_fast _ _).1, (st_fast _ _).2]
    rfl
  | cons h t hh ht =>
    funext ρ S
    simp only [ev, hh, ht, bind_fast, wO_fast, wL_fast, nR_fast, nO_fast, tn_fast, ite_fast, get_fast, inv_fast, (st_fast _ _).1, (st_fast _ _).2]
    rfl
  | tup es hes =>
    funext ρ S
    simp only [ev, hes, bind_fast, wO_fast, wL_fast, nR_fast, nO_fast, tn_fast, ite_fast, get_fast, inv_fast, (st_fast _ _).1, (st_fast _ _).2]
    rfl
  | lst bx es hes =>
    funext ρ S
    simp only [ev, hes, bind_fast, wO_fast, wL_fast, nR_fast, nO_fast, tn_fast, ite_fast, get_fast, inv_fast, (st_fast _ _).1, (st_fast _ _).2]
    rfl
  | bin o bx a b ha hb =>
    funext ρ S
    simp only [ev, ha, hb, bind_fast, wO_fast, wL_fast, nR_fast, nO_fast, tn_fast, ite_fast, get_fast, inv_fast, (st_fast _ _).1, (st_fast _ _).2]
    rfl
  | neg a ha =>
    funext ρ S
    simp only [ev, ha, bind_fast, wO_fast, wL_fast, nR_fast, nO_fast, tn_fast, ite_fast, get_fast, inv_fast, (st_fast _ _).1, (st_fast _ _).2]
    rfl
  | not a ha =>
    funext ρ S
    simp only [ev, ha, bind_fast, wO_fast, wL_fast, nR_fast, nO_fast, tn_fast, ite_fast, get_fast, inv_fast, (st_fast _ _).1, (st_fast _ _).2]
    rfl
  | and a b ha hb =>
    funext ρ S
    simp only [ev, ha, hb, bind_fast, wO_fast, wL_fast, nR_fast, nO_fast, tn_fast, ite_fast, get_fast, inv_fast, (st_fast _ _).1, (st_fast _ _).2]
    rfl
  | or a b ha hb =>
    funext ρ S
    simp only [ev, ha, hb, bind_fast, wO_fast, wL_fast, nR_fast, nO_fast, tn_fast, ite_fast, get_fast, inv_fast, (st_fast _ _).1, (st_fast _ _).2]
    rfl
  | cmp o a b ha hb =>
    funext ρ S
    simp only [ev, ha, hb, bind_fast, wO_fast, wL_fast, nR_fast, nO_fast, tn_fast, ite_fast, get_fast, inv_fast, (st_fast _ _).1, (st_fast _ _).2]
    rfl
  | chn o o' a b d ha hb hd =>
    funext ρ S
    simp only [ev, ha, hb, hd, bind_fast, wO_fast, wL_fast, nR_fast, nO_fast, tn_fast, ite_fast, get_fast, inv_fast, (st_fast _ _).1, (st_fast _ _).2]
    rfl
  | ite t a b ht ha hb =>
    funext ρ S
    simp only [ev, ht, ha, hb, bind_fast, wO_fast, wL_fast, nR_fast, nO_fast, tn_fast, ite_fast, get_fast, inv_fast, (st_fast _ _).1, (st_fast _ _).2]
    rfl
  | idx a b ha hb =>
    funext ρ S
    simp only [ev, ha, hb, bind_fast, wO_fast, wL_fast, nR_fast, nO_fast, tn_fast, ite_fast, get_fast, inv_fast, (st_fast _ _).1, (st_fast _ _).2]
    rfl
  | slc bx a lo hi ha hlo hhi =>
    funext ρ S
    simp only [ev, ha, hlo, hhi, bind_fast, wO_fast, wL_fast, nR_fast, nO_fast, tn_fast, ite_fast, get_fast, inv_fast, (st_fast _ _).1, (st_fast _ _).2]
    rfl
  | abs =>
    funext ρ S
    simp only [ev, bind_fast, wO_fast, wL_fast, nR_fast, nO_fast, tn_fast, ite_fast, get_fast, inv_fast, (st_fast _ _).1, (st_fast _ _).2]
    rfl
  | prt e he =>
    funext ρ S
    simp only [ev, he, bind_fast, wO_fast, wL_fast, nR_fast, nO_fast, tn_fast, ite_fast, get_fast, inv_fast, (st_fast _ _).1, (st_fast _ _).2]
    rfl
  | rev bx a ha =>
    funext ρ S
    simp only [ev, ha, bind_fast, wO_fast, wL_fast, nR_fast, nO_fast, tn_fast, ite_fast, get_fast, inv_fast, (st_fast _ _).1, (st_fast _ _).2]
    rfl
  | evr bx a lo k ha hlo =>
    funext ρ S
    simp only [ev, ha, hlo, bind_fast, wO_fast, wL_fast, nR_fast, nO_fast, tn_fast, ite_fast, get_fast, inv_fast, (st_fast _ _).1, (st_fast _ _).2]
    rfl
  | lc bx own cl hcl =>
    funext ρ S
    simp only [ev, hcl, bind_fast, wO_fast, wL_fast, nR_fast, nO_fast, tn_fast, ite_fast, get_fast, inv_fast, (st_fast _ _).1, (st_fast _ _).2]
    rfl
  | cl t it cond rest hit hcond hrest =>
    funext ρ S
    simp only [ev, hit, hcond, hrest, bind_fast, wO_fast, wL_fast, nR_fast, nO_fast, tn_fast, ite_fast, get_fast, inv_fast, (st_fast _ _).1, (st_fast _ _).2]
    rfl
  | one elt helt =>
    funext ρ S
    simp only [ev, helt, bind_fast, wO_fast, wL_fast, nR_fast, nO_fast, tn_fast, ite_fast, get_fast, inv_fast, (st_fast _ _).1, (st_fast _ _).2]
    rfl
  | irng es hes =>
    funext ρ S
    simp only [ev, hes, bind_fast, wO_fast, wL_fast, nR_fast, nO_fast, tn_fast, ite_fast, get_fast, inv_fast, (st_fast _ _).1, (st_fast _ _).2]
    rfl
  | ienu e he =>
    funext ρ S
    simp only [ev, he, bind_fast, wO_fast, wL_fast, nR_fast, nO_fast, tn_fast, ite_fast, get_fast, inv_fast, (st_fast _ _).1, (st_fast _ _).2]
    rfl
  | izip a b ha hb =>
    funext ρ S
    simp only [ev, ha, hb, bind_fast, wO_fast, wL_fast, nR_fast, nO_fast, tn_fast, ite_fast, get_fast, inv_fast, (st_fast _ _).1, (st_fast _ _).2]
    rfl
  | izt a b c ha hb hc =>
    funext ρ S
    simp only [ev, ha, hb, hc, bind_fast, wO_fast, wL_fast, nR_fast, nO_fast, tn_fast, ite_fast, get_fast, inv_fast, (st_fast _ _).1, (st_fast _ _).2]
    rfl
  | call f es hes =>
    funext ρ S
    simp only [ev, hes, bind_fast, wO_fast, wL_fast, nR_fast, nO_fast, tn_fast, ite_fast, get_fast, inv_fast, (st_fast _ _).1, (st_fast _ _).2]
    rfl
  | calv f es hes =>
    funext ρ S
    simp only [ev, hes, bind_fast, wO_fast, wL_fast, nR_fast, nO_fast, tn_fast, ite_fast, get_fast, inv_fast, (st_fast _ _).1, (st_fast _ _).2]
    rfl
  | calk f perm es hes =>
    funext ρ S
    simp only [ev, hes, bind_fast, wO_fast, wL_fast, nR_fast, nO_fast, tn_fast, ite_fast, get_fast, inv_fast, (st_fast _ _).1, (st_fast _ _).2]
    rfl
  | cale f es hf hes =>
    funext ρ S
    simp only [ev, hf, hes, bind_fast, wO_fast, wL_fast, nR_fast, nO_fast, tn_fast, ite_fast, get_fast, inv_fast, (st_fast _ _).1, (st_fast _ _).2]
    rfl
  | blt b bx es hes =>
    funext ρ S
    simp only [ev, hes, bind_fast, wO_fast, wL_fast, nR_fast, nO_fast, tn_fast, ite_fast, get_fast, inv_fast, (st_fast _ _).1, (st_fast _ _).2]
    rfl
  | mth m bx o es ho hes =>
    funext ρ S
    simp only [ev, ho, hes, bind_fast, wO_fast, wL_fast, nR_fast, nO_fast, tn_fast, ite_fast, get_fast, inv_fast, (st_fast _ _).1, (st_fast _ _).2]
    rfl
  | maxd es d hes hd =>
    funext ρ S
    simp only [ev, hes, hd, bind_fast, wO_fast, wL_fast, nR_fast, nO_fast, tn_fast, ite_fast, get_fast, inv_fast, (st_fast _ _).1, (st_fast _ _).2]
    rfl
  | fld o ho =>
    funext ρ S
    simp only [ev, ho, bind_fast, wO_fast, wL_fast, nR_fast, nO_fast, tn_fast, ite_fast, get_fast, inv_fast, (st_fast _ _).1, (st_fast _ _).2]
    rfl
  | isx o t ho =>
    funext ρ S
    simp only [ev, ho, bind_fast, wO_fast, wL_fast, nR_fast, nO_fast, tn_fast, ite_fast, get_fast, inv_fast, (st_fast _ _).1, (st_fast _ _).2]
    rfl
  | frz e he =>
    funext ρ S
    simp only [ev, he, bind_fast, wO_fast, wL_fast, nR_fast, nO_fast, tn_fast, ite_fast, get_fast, inv_fast, (st_fast _ _).1, (st_fast _ _).2]
    rfl
theorem sx_fast (nb wf : Nat) (s : Sm) : sx call cons isx nb wf s = (smF call cons isx nb wf s).1 ∧ hx call cons isx nb wf s = (smF call cons isx nb wf s).2 := by
  induction s with
  | «nil» =>
    constructor
    · funext ρ S
      simp only [sx, ev_fast, bind_fast, wO_fast, wL_fast, nR_fast, nO_fast, tn_fast, ite_fast, get_fast, inv_fast, (st_fast _ _).1, (st_fast _ _).2]
      first | done | rfl
    · funext x ρ S
      simp only [hx, ev_fast, bind_fast, wO_fast, wL_fast, nR_fast, nO_fast, tn_fast, get_fast, inv_fast, (st_fast _ _).1, (st_fast _ _).2]
      first | done | rfl
  | «seq» s_ r_ hs hr =>
    constructor
    · funext ρ S
      simp only [sx, ev_fast, bind_fast, wO_fast, wL_fast, nR_fast, nO_fast, tn_fast, ite_fast, get_fast, inv_fast, (st_fast _ _).1, (st_fast _ _).2, hs.1, hr.1, hs.2, hr.2]
      first | done | rfl
    · funext x ρ S
      simp only [hx, ev_fast, bind_fast, wO_fast, wL_fast, nR_fast, nO_fast, tn_fast, get_fast, inv_fast, (st_fast _ _).1, (st_fast _ _).2, hs.1, hr.1, hs.2, hr.2]
      first | done | rfl
  | «asg» t_ e_ =>
    constructor
    · funext ρ S
      simp only [sx, ev_fast, bind_fast, wO_fast, wL_fast, nR_fast, nO_fast, tn_fast, ite_fast, get_fast, inv_fast, (st_fast _ _).1, (st_fast _ _).2]
      first | done | rfl
    · funext x ρ S
      simp only [hx, ev_fast, bind_fast, wO_fast, wL_fast, nR_fast, nO_fast, tn_fast, get_fast, inv_fast, (st_fast _ _).1, (st_fast _ _).2]
      first | done | rfl
  | «par» t_ es_ =>
    constructor
    · funext ρ S
      simp only [sx, ev_fast, bind_fast, wO_fast, wL_fast, nR_fast, nO_fast, tn_fast, ite_fast, get_fast, inv_fast, (st_fast _ _).1, (st_fast _ _).2]
      first | done | rfl
    · funext x ρ S
      simp only [hx, ev_fast, bind_fast, wO_fast, wL_fast, nR_fast, nO_fast, tn_fast, get_fast, inv_fast, (st_fast _ _).1, (st_fast _ _).2]
      first | done | rfl
  | «sub» o_ i_ e_ =>
    constructor
    · funext ρ S
      simp only [sx, ev_fast, bind_fast, wO_fast, wL_fast, nR_fast, nO_fast, tn_fast, ite_fast, get_fast, inv_fast, (st_fast _ _).1, (st_fast _ _).2]
      first | done | rfl
    · funext x ρ S
      simp only [hx, ev_fast, bind_fast, wO_fast, wL_fast, nR_fast, nO_fast, tn_fast, get_fast, inv_fast, (st_fast _ _).1, (st_fast _ _).2]
      first | done | rfl
  | «aug» i_ o_ e_ =>
    constructor
    · funext ρ S
      simp only [sx, ev_fast, bind_fast, wO_fast, wL_fast, nR_fast, nO_fast, tn_fast, ite_fast, get_fast, inv_fast, (st_fast _ _).1, (st_fast _ _).2]
      first | done | rfl
    · funext x ρ S
      simp only [hx, ev_fast, bind_fast, wO_fast, wL_fast, nR_fast, nO_fast, tn_fast, get_fast, inv_fast, (st_fast _ _).1, (st_fast _ _).2]
      first | done | rfl
  | «augs» a_ i_ o_ e_ =>
    constructor
    · funext ρ S
      simp only [sx, ev_fast, bind_fast, wO_fast, wL_fast, nR_fast, nO_fast, tn_fast, ite_fast, get_fast, inv_fast, (st_fast _ _).1, (st_fast _ _).2]
      first | done | rfl
    · funext x ρ S
      simp only [hx, ev_fast, bind_fast, wO_fast, wL_fast, nR_fast, nO_fast, tn_fast, get_fast, inv_fast, (st_fast _ _).1, (st_fast _ _).2]
      first | done | rfl
  | «app» o_ e_ =>
    constructor
    · funext ρ S
      simp only [sx, ev_fast, bind_fast, wO_fast, wL_fast, nR_fast, nO_fast, tn_fast, ite_fast, get_fast, inv_fast, (st_fast _ _).1, (st_fast _ _).2]
      first | done | rfl
    · funext x ρ S
      simp only [hx, ev_fast, bind_fast, wO_fast, wL_fast, nR_fast, nO_fast, tn_fast, get_fast, inv_fast, (st_fast _ _).1, (st_fast _ _).2]
      first | done | rfl
  | «pop» o_ =>
    constructor
    · funext ρ S
      simp only [sx, ev_fast, bind_fast, wO_fast, wL_fast, nR_fast, nO_fast, tn_fast, ite_fast, get_fast, inv_fast, (st_fast _ _).1, (st_fast _ _).2]
      first | done | rfl
    · funext x ρ S
      simp only [hx, ev_fast, bind_fast, wO_fast, wL_fast, nR_fast, nO_fast, tn_fast, get_fast, inv_fast, (st_fast _ _).1, (st_fast _ _).2]
      first | done | rfl
  | «ex» e_ =>
    constructor
    · funext ρ S
      simp only [sx, ev_fast, bind_fast, wO_fast, wL_fast, nR_fast, nO_fast, tn_fast, ite_fast, get_fast, inv_fast, (st_fast _ _).1, (st_fast _ _).2]
      first | done | rfl
    · funext x ρ S
      simp only [hx, ev_fast, bind_fast, wO_fast, wL_fast, nR_fast, nO_fast, tn_fast, get_fast, inv_fast, (st_fast _ _).1, (st_fast _ _).2]
      first | done | rfl
  | «ife» t_ a_ b_ ha hb =>
    constructor
    · funext ρ S
      simp only [sx, ev_fast, bind_fast, wO_fast, wL_fast, nR_fast, nO_fast, tn_fast, ite_fast, get_fast, inv_fast, (st_fast _ _).1, (st_fast _ _).2, ha.1, hb.1, ha.2, hb.2]
      first | done | rfl
    · funext x ρ S
      simp only [hx, ev_fast, bind_fast, wO_fast, wL_fast, nR_fast, nO_fast, tn_fast, get_fast, inv_fast, (st_fast _ _).1, (st_fast _ _).2, ha.1, hb.1, ha.2, hb.2]
      first | done | rfl
  | «for» t_ it_ b_ hb =>
    constructor
    · funext ρ S
      simp only [sx, ev_fast, bind_fast, wO_fast, wL_fast, nR_fast, nO_fast, tn_fast, ite_fast, get_fast, inv_fast, (st_fast _ _).1, (st_fast _ _).2, hb.1, hb.2]
      first | done | rfl
    · funext x ρ S
      simp only [hx, ev_fast, bind_fast, wO_fast, wL_fast, nR_fast, nO_fast, tn_fast, get_fast, inv_fast, (st_fast _ _).1, (st_fast _ _).2, hb.1, hb.2]
      first | done | rfl
  | «whl» t_ b_ hb =>
    constructor
    · funext ρ S
      simp only [sx, ev_fast, bind_fast, wO_fast, wL_fast, nR_fast, nO_fast, tn_fast, ite_fast, get_fast, inv_fast, (st_fast _ _).1, (st_fast _ _).2, hb.1, hb.2]
      first | done | rfl
    · funext x ρ S
      simp only [hx, ev_fast, bind_fast, wO_fast, wL_fast, nR_fast, nO_fast, tn_fast, get_fast, inv_fast, (st_fast _ _).1, (st_fast _ _).2, hb.1, hb.2]
      first | done | rfl
  | «ret» e_ =>
    constructor
    · funext ρ S
      simp only [sx, ev_fast, bind_fast, wO_fast, wL_fast, nR_fast, nO_fast, tn_fast, ite_fast, get_fast, inv_fast, (st_fast _ _).1, (st_fast _ _).2]
      first | done | rfl
    · funext x ρ S
      simp only [hx, ev_fast, bind_fast, wO_fast, wL_fast, nR_fast, nO_fast, tn_fast, get_fast, inv_fast, (st_fast _ _).1, (st_fast _ _).2]
      first | done | rfl
  | «retN» =>
    constructor
    · funext ρ S
      simp only [sx, ev_fast, bind_fast, wO_fast, wL_fast, nR_fast, nO_fast, tn_fast, ite_fast, get_fast, inv_fast, (st_fast _ _).1, (st_fast _ _).2]
      first | done | rfl
    · funext x ρ S
      simp only [hx, ev_fast, bind_fast, wO_fast, wL_fast, nR_fast, nO_fast, tn_fast, get_fast, inv_fast, (st_fast _ _).1, (st_fast _ _).2]
      first | done | rfl
  | «brk» =>
    constructor
    · funext ρ S
      simp only [sx, ev_fast, bind_fast, wO_fast, wL_fast, nR_fast, nO_fast, tn_fast, ite_fast, get_fast, inv_fast, (st_fast _ _).1, (st_fast _ _).2]
      first | done | rfl
    · funext x ρ S
      simp only [hx, ev_fast, bind_fast, wO_fast, wL_fast, nR_fast, nO_fast, tn_fast, get_fast, inv_fast, (st_fast _ _).1, (st_fast _ _).2]
      first | done | rfl
  | «cnt» =>
    constructor
    · funext ρ S
      simp only [sx, ev_fast, bind_fast, wO_fast, wL_fast, nR_fast, nO_fast, tn_fast, ite_fast, get_fast, inv_fast, (st_fast _ _).1, (st_fast _ _).2]
      first | done | rfl
    · funext x ρ S
      simp only [hx, ev_fast, bind_fast, wO_fast, wL_fast, nR_fast, nO_fast, tn_fast, get_fast, inv_fast, (st_fast _ _).1, (st_fast _ _).2]
      first | done | rfl
  | «pas» =>
    constructor
    · funext ρ S
      simp only [sx, ev_fast, bind_fast, wO_fast, wL_fast, nR_fast, nO_fast, tn_fast, ite_fast, get_fast, inv_fast, (st_fast _ _).1, (st_fast _ _).2]
      first | done | rfl
    · funext x ρ S
      simp only [hx, ev_fast, bind_fast, wO_fast, wL_fast, nR_fast, nO_fast, tn_fast, get_fast, inv_fast, (st_fast _ _).1, (st_fast _ _).2]
      first | done | rfl
  | «rai» c_ es_ =>
    constructor
    · funext ρ S
      simp only [sx, ev_fast, bind_fast, wO_fast, wL_fast, nR_fast, nO_fast, tn_fast, ite_fast, get_fast, inv_fast, (st_fast _ _).1, (st_fast _ _).2]
      first | done | rfl
    · funext x ρ S
      simp only [hx, ev_fast, bind_fast, wO_fast, wL_fast, nR_fast, nO_fast, tn_fast, get_fast, inv_fast, (st_fast _ _).1, (st_fast _ _).2]
      first | done | rfl
  | «try» b_ hs_ hb hhs =>
    constructor
    · funext ρ S
      simp only [sx, ev_fast, bind_fast, wO_fast, wL_fast, nR_fast, nO_fast, tn_fast, ite_fast, get_fast, inv_fast, (st_fast _ _).1, (st_fast _ _).2, hb.1, hhs.1, hb.2, hhs.2]
      first | done | rfl
    · funext x ρ S
      simp only [hx, ev_fast, bind_fast, wO_fast, wL_fast, nR_fast, nO_fast, tn_fast, get_fast, inv_fast, (st_fast _ _).1, (st_fast _ _).2, hb.1, hhs.1, hb.2, hhs.2]
      first | done | rfl
  | «hnd» c_ n_ b_ r_ hb hr =>
    constructor
    · funext ρ S
      simp only [sx, ev_fast, bind_fast, wO_fast, wL_fast, nR_fast, nO_fast, tn_fast, ite_fast, get_fast, inv_fast, (st_fast _ _).1, (st_fast _ _).2, hb.1, hr.1, hb.2, hr.2]
      first | done | rfl
    · funext x ρ S
      simp only [hx, ev_fast, bind_fast, wO_fast, wL_fast, nR_fast, nO_fast, tn_fast, get_fast, inv_fast, (st_fast _ _).1, (st_fast _ _).2, hb.1, hr.1, hb.2, hr.2]
      first | done | rfl
  | «frz» i_ =>
    constructor
    · funext ρ S
      simp only [sx, ev_fast, bind_fast, wO_fast, wL_fast, nR_fast, nO_fast, tn_fast, ite_fast, get_fast, inv_fast, (st_fast _ _).1, (st_fast _ _).2]
      first | done | rfl
    · funext x ρ S
      simp only [hx, ev_fast, bind_fast, wO_fast, wL_fast, nR_fast, nO_fast, tn_fast, get_fast, inv_fast, (st_fast _ _).1, (st_fast _ _).2]
      first | done | rfl
  | «gc» =>
    constructor
    · funext ρ S
      simp only [sx, ev_fast, bind_fast, wO_fast, wL_fast, nR_fast, nO_fast, tn_fast, ite_fast, get_fast, inv_fast, (st_fast _ _).1, (st_fast _ _).2]
      first | done | rfl
    · funext x ρ S
      simp only [hx, ev_fast, bind_fast, wO_fast, wL_fast, nR_fast, nO_fast, tn_fast, get_fast, inv_fast, (st_fast _ _).1, (st_fast _ _).2]
      first | done | rfl
end
noncomputable def runF (T : Nat → Option Fn) (cons : Nat → Option PV) (isx : Nat → String → Bool) (wf : Nat) (k : Nat) : Nat → List PV → Sto → R PV := Nat.rec (motive := fun _ => Nat → List PV → Sto → R PV) (fun _ _ _ => .no)
  (fun _ ih f vs S => withO (T f) fun d => if Nat.beq vs.length d.np then match (smF ih cons isx S.length wf d.body).1 (vs.map some ++ List.replicate (d.ns - d.np) none) S with
      | .nx _ S1 => .ok .non S1
      | .rt v S1 => .ok v S1
      | .ex c _ S1 => .ex c S1
      | _ => .no
    else .no) k
theorem run_fast {T : Nat → Option Fn} {cons : Nat → Option PV} {isx : Nat → String → Bool} {wf : Nat} : ∀ k : Nat, run T cons isx wf k = runF T cons isx wf k
  | 0 => by
    funext f vs S
    simp only [run]
    rfl
  | k + 1 => by
    funext f vs S
    simp only [run, run_fast k, (sx_fast _ _ _ _ _ _).1]
    rfl
end Rn
set_option maxHeartbeats 1000007
/-! Draws and data: what a law's own helpers tell of drawn things. -/
namespace Rn
open PySem
theorem shps_lift {n m : Nat} (f : ∀ v, PV.shp n v = true → PV.shp m v = true) : ∀ l, PV.shps n l = true → PV.shps m l = true
  | [], _ => by simp only [PV.shps]
  | a :: r, h => by
    simp only [PV.shps, Bool.and_eq_true] at h ⊢
    exact ⟨f a h.1, shps_lift f r h.2⟩
theorem shp_mono : ∀ {n : Nat} {v : PV}, PV.shp n v = true → PV.shp (n + 1) v = true := fun {n} => by
  induction n with
  | zero =>
    intro v h
    cases v <;> first | (simp only [PV.shp]; done) | (simp [PV.shp] at h)
  | succ n ih =>
    intro v h
    cases v with
    | tup l =>
      simp only [PV.shp] at h ⊢
      exact shps_lift (fun v => ih) l h
    | lst l =>
      simp only [PV.shp] at h ⊢
      exact shps_lift (fun v => ih) l h
    | _ => first | (simp only [PV.shp]; done) | (simp [PV.shp] at h)
theorem shps_mono {n : Nat} {l : List PV} (h : PV.shps n l = true) : PV.shps (n + 1) l = true := shps_lift (fun _ => shp_mono) l h
theorem shp_up {n : Nat} {v : PV} (h : PV.shp n v = true) : ∀ k, PV.shp (n + k) v = true
  | 0 => h
  | k + 1 => shp_mono (shp_up h k)
theorem shps_up {n : Nat} {v : List PV} (h : PV.shps n v = true) : ∀ k, PV.shps (n + k) v = true
  | 0 => h
  | k + 1 => shps_mono (shps_up h k)
theorem shps_nobs {n : Nat} (f : ∀ v, PV.shp n v = true → v.nob = true) : ∀ l, PV.shps n l = true → PV.nobs l = true
  | [], _ => by simp only [PV.nobs]
  | a :: r, h => by
    simp only [PV.shps, Bool.and_eq_true] at h
    simp only [PV.nobs, f a h.1, shps_nobs f r h.2, Bool.and_self]
theorem shp_nob : ∀ {n : Nat} {v : PV}, PV.shp n v = true → v.nob = true := fun {n} => by
  induction n with
  | zero =>
    intro v h
    cases v <;> first | (simp only [PV.nob]; done) | (simp [PV.shp] at h)
  | succ n ih =>
    intro v h
    cases v with
    | tup l =>
      simp only [PV.shp] at h
      simp only [PV.nob]
      exact shps_nobs (fun v => ih) l h
    | lst l =>
      simp only [PV.shp] at h
      simp only [PV.nob]
      exact shps_nobs (fun v => ih) l h
    | _ => first | (simp only [PV.nob]; done) | (simp [PV.shp] at h)
theorem shps_nob {n : Nat} {l : List PV} (h : PV.shps n l = true) : PV.nobs l = true := shps_nobs (fun _ => shp_nob) l h
theorem shps_append {n : Nat} : ∀ {a b : List PV}, PV.shps n (a ++ b) = (PV.shps n a && PV.shps n b)
  | [], b => by simp [PV.shps]
  | x :: a, b => by simp [PV.shps, shps_append (a := a), Bool.and_assoc]
theorem shps_mem {n : Nat} {l : List PV} : PV.shps n l = true ↔ ∀ x ∈ l, PV.shp n x = true := by
  induction l with
  | nil => simp [PV.shps]
  | cons a r ih => simp [PV.shps, ih]
theorem shps_sub {n : Nat} {l r : List PV} (h : PV.shps n l = true) (s : ∀ x ∈ r, x ∈ l) : PV.shps n r = true := shps_mem.mpr fun x hx => shps_mem.mp h x (s x hx)
theorem args_plain : ∀ {l : List PV} {k : Nat}, PV.nobs l = true → boxes l = [] ∧ renum k l = l ∧ okArgs l = true
  | [], k, _ => ⟨rfl, rfl, rfl⟩
  | a :: r, k, h => by
    simp only [PV.nobs, Bool.and_eq_true] at h
    obtain ⟨h1, h2, h3⟩ := args_plain (k := k) h.2
    cases a with
    | box n => exact absurd h.1 (by simp [PV.nob])
    | _ =>
      refine ⟨?_, ?_, ?_⟩
      · simpa only [boxes] using h1
      · simp only [renum, h2]
      · simp only [okArgs, h.1, h3, Bool.and_self]
theorem nob_box {v : PV} (h : v.nob = true) : ∀ n, v ≠ .box n := fun n e => by
  rw [e] at h
  simp [PV.nob] at h
/-- a call that is handed no list of the store -/
theorem inv0 {f : List PV → Sto → R PV} {vs : List PV} {v : PV} {S S1 : Sto} (ha : PV.nobs vs = true) (hv : v.nob = true) (h : f vs [] = .ok v S1) : invoke f vs S = .ok v S := by
  obtain ⟨h1, h2, h3⟩ := args_plain (k := 0) ha
  exact plain_call h1 h3 h2 hv (nob_box hv) h
/-- the source of draws, alone in the store -/
def Tn (t0 t1 t2 : Int) : Sto := [some [.int t0, .int t1, .int t2]]
theorem inv1 {f : List PV → Sto → R PV} {vs : List PV} {v : PV} {t0 t1 t2 u0 u1 u2 : Int} {ex : Sto} (ha : PV.nobs vs = true) (hv : v.nob = true) (h : f (.box 0 :: vs) (Tn t0 t1 t2) = .ok v (some [.int u0, .int u1, .int u2] :: ex)) : invoke f (.box 0 :: vs) (Tn t0 t1 t2) = .ok v (Tn u0 u1 u2) := by
  obtain ⟨h1, h2, h3⟩ := args_plain (k := 1) ha
  unfold invoke
  have b : boxes (.box 0 :: vs) = [0] := by
    show 0 :: boxes vs = [0]
    rw [h1]
  have r : renum 0 (.box 0 :: vs) = .box 0 :: vs := by
    show PV.box 0 :: renum 1 vs = _
    rw [h2]
  have o : okArgs (.box 0 :: vs) = true := h3
  rw [b, r, o, if_pos (show (nodup [0] && true) = true from rfl)]
  show (if plainS (Tn t0 t1 t2) then match f (.box 0 :: vs) (Tn t0 t1 t2) with
      | .ok v S1 => if plainS (S1.take 1) then giveBack [0] v (putBack (Tn t0 t1 t2) [0] S1) S1 else .no
      | .ex c S1 => if PV.nobs c.args && plainS (S1.take 1) then .ex c (putBack (Tn t0 t1 t2) [0] S1) else .no
      | .no => .no else .no) = _
  rw [if_pos (show plainS (Tn t0 t1 t2) = true from rfl), h]
  show (if plainS [some [.int u0, .int u1, .int u2]] then giveBack [0] v (putBack (Tn t0 t1 t2) [0] (some [.int u0, .int u1, .int u2] :: ex)) (some [.int u0, .int u1, .int u2] :: ex) else .no) = _
  rw [if_pos (show plainS [some [.int u0, .int u1, .int u2]] = true from rfl), putBack_one]
  show giveBack [0] v (Tn u0 u1 u2) _ = _
  unfold giveBack
  cases v with
  | box n => exact absurd rfl (nob_box hv n)
  | _ => first | (rw [if_pos hv]) | (simp only [hv, if_true])
/-- draws go on: from a state with at most n draws of its own to one with at most c more -/
structure Dr (t0 t2 : Int) (n : Int) : Prop where
  a : 0 ≤ t0
  b : 0 ≤ t2
  c : t2 ≤ n
theorem Dr.up {t0 t2 n m : Int} (h : Dr t0 t2 n) (k : n ≤ m) : Dr t0 t2 m := ⟨h.a, h.b, Int.le_trans h.c k⟩
section
variable {tf : Nat → Option Fn} {cons : Nat → Option PV} {isx : Nat → String → Bool} {wf k : Nat}
theorem take1 {i : Nat} {t0 t1 t2 b n : Int} (h : tf i = some ⟨2, 6, bTake⟩) (hb : 0 < b) (hb2 : b < 10000000000000) (hd : Dr t0 t2 n) (hn : n < 999999999) :
    ∃ (d : Nat) (u0 u2 : Int), invoke (run tf cons isx wf (k + 1) i) [.box 0, .int b] (Tn t0 t1 t2) = .ok (.int d) (Tn u0 t1 u2) ∧ (d : Int) < b ∧ Dr u0 u2 (n + 1) := by
  obtain ⟨d, u0, u2, e, q1, q2, q3, _, q5, q6⟩ := take_call (cons := cons) (isx := isx) (wf := wf) (k := k) (n := 0) (t1 := t1) (S := Tn t0 t1 t2) h rfl hb hb2 hd.a hd.b (by have := hd.c; omega)
  obtain ⟨d, rfl⟩ := Int.eq_ofNat_of_zero_le q1
  exact ⟨d, u0, u2, e, q2, q3, by have := hd.b; omega, by have := hd.c; omega⟩
def bOf (take : Nat) : Sm := (.seq (.ret (.idx (.var 1) (.call take (.cons (.var 0) (.cons (.blt .len false (.cons (.var 1) .nil)) .nil))))) .nil)
theorem getI_nat {l : List PV} {d : Nat} (h : d < l.length) : getI l (d : Int) = some l[d] := by
  show (match (if Nat.blt d l.length then some d else none) with | some j => l[j]? | none => none) = _
  rw [if_pos (show Nat.blt d l.length = true from Nat.ble_eq_true_of_le h)]
  exact List.getElem?_eq_getElem h
/-- one of several -/
theorem of1 {i take : Nat} {t0 t1 t2 n : Int} {l : List PV} (h : tf take = some ⟨2, 6, bTake⟩) (hi : tf i = some ⟨2, 2, bOf take⟩) (hl : l ≠ []) (hl2 : l.length < 1000000) (hs : PV.nobs l = true) (hd : Dr t0 t2 n) (hn : n < 999999999) :
    ∃ (d : Nat) (hdl : d < l.length) (u0 u2 : Int), invoke (run tf cons isx wf (k + 2) i) [.box 0, .lst l] (Tn t0 t1 t2) = .ok l[d] (Tn u0 t1 u2) ∧ Dr u0 u2 (n + 1) := by
  have hp : 0 < l.length := List.length_pos_iff.mpr hl
  obtain ⟨d, u0, u2, e, q1, q2⟩ := take1 (cons := cons) (isx := isx) (wf := wf) (k := k) (t1 := t1) (b := (l.length : Int)) h (by omega) (by omega) hd hn
  have hdl : d < l.length := by omega
  refine ⟨d, hdl, u0, u2, ?_, q2⟩
  have hv : (l[d]).nob = true := by
    have : ∀ {l : List PV}, PV.nobs l = true → ∀ x ∈ l, x.nob = true := fun {l} => by
      induction l with
      | nil => intro _ x hx; cases hx
      | cons a r ih =>
        intro h x hx
        simp only [PV.nobs, Bool.and_eq_true] at h
        rcases List.mem_cons.mp hx with z | z
        · rw [z]
          exact h.1
        · exact ih h.2 x z
    exact this hs _ (List.getElem_mem hdl)
  refine inv1 (ex := []) (by simp only [PV.nobs, PV.nob, hs, Bool.and_self]) hv ?_
  rw [run_fn hi rfl]
  show endR (sx (run tf cons isx wf (k + 1)) cons isx 1 wf (bOf take) [some (.box 0), some (.lst l)] (Tn t0 t1 t2)) = _
  simp only [bOf, sx, F.then, onR, ev, getV, R.bind, withL, List.getElem?_cons_zero, List.getElem?_cons_succ, blt, seqOf, withO, e, idxV, getI_nat hdl, opt, endR]
  rfl
theorem lcLoop_pure {all : List PV} {step : PV → Sto → R (List PV)} {g : PV → List PV} {S : Sto} : ∀ {l : List PV}, (∀ x ∈ l, step x S = .ok (g x) S) → lcLoop none all step l S = .ok (l.flatMap g) S
  | [], _ => rfl
  | x :: xs, h => by
    have ih := lcLoop_pure (all := all) (l := xs) fun y hy => h y (List.mem_cons_of_mem _ hy)
    show (match step x S with
      | .ok r S1 => match lcLoop none all step xs S1 with
        | .ok r2 S2 => R.ok (r ++ r2) S2
        | _ => R.no
      | _ => R.no) = _
    rw [h x List.mem_cons_self]
    show (match lcLoop none all step xs S with
        | .ok r2 S2 => R.ok (g x ++ r2) S2
        | _ => R.no) = _
    rw [ih]
    rfl
/-- a comprehension that changes nothing -/
theorem ev_lc_pure {call : Nat → List PV → Sto → R PV} {bx : Bool} {own : List Nat} {i : Nat} {it cond elt : Ex} {ρ : Env} {S : Sto} {v : PV} {l : List PV} {c : PV → Bool} {g : PV → PV} (hit : ev call cons isx it (wipes ρ own) S = .ok v S) (hl : items S v = some l) (hb : boxOf v = none) (hi : i < ρ.length)
    (hc : ∀ x ∈ l, ev call cons isx cond ((wipes ρ own).set i (some x)) S = .ok (.bl (c x)) S) (he : ∀ x ∈ l, c x = true → ev call cons isx elt ((wipes ρ own).set i (some x)) S = .ok (g x) S) :
    ev call cons isx (.lc bx own (.cl (.nm i) it cond (.one elt))) ρ S = mk bx (l.flatMap fun x => if c x then [g x] else []) S := by
  have st : ∀ x, store S (.nm i) x (wipes ρ own) = some ((wipes ρ own).set i (some x)) := fun x => by
    show (if Nat.blt i (wipes ρ own).length then some _ else none) = _
    rw [if_pos]
    rw [wipes_len]
    exact Nat.ble_eq_true_of_le hi
  have L := lcLoop_pure (all := l) (S := S) (l := l) (g := fun x => if c x then [g x] else []) (step := fun x S2 => withO (store S2 (.nm i) x (wipes ρ own)) fun ρ' => (ev call cons isx cond ρ' S2).bind fun w S3 => withO (truth S3 w) fun b =>
        if b then (ev call cons isx (.one elt) ρ' S3).bind fun r S4 => withL r fun vs => .ok vs S4 else .ok [] S3) fun x hx => by
    show withO (store S (.nm i) x (wipes ρ own)) _ = _
    rw [st]
    show (ev call cons isx cond _ S).bind _ = _
    rw [hc x hx]
    show (if c x then (ev call cons isx (.one elt) ((wipes ρ own).set i (some x)) S).bind fun r S4 => withL r fun vs => .ok vs S4 else .ok [] S) = _
    cases hcx : c x with
    | false => rfl
    | true =>
      rw [if_pos rfl, if_pos rfl]
      show (R.bind ((ev call cons isx elt ((wipes ρ own).set i (some x)) S).bind fun v S1 => .ok (.lst [v]) S1) fun r S4 => withL r fun vs => .ok vs S4) = _
      rw [he x hx hcx]
      rfl
  show (R.bind ((ev call cons isx it (wipes ρ own) S).bind fun v S1 => withO (items S1 v) fun l => (lcLoop (boxOf v) l _ l S1).bind fun vs S5 => .ok (.lst vs) S5) fun r S1 => withL r fun vs => mk bx vs S1) = _
  rw [hit]
  show (R.bind (withO (items S v) fun l => (lcLoop (boxOf v) l _ l S).bind fun vs S5 => .ok (.lst vs) S5) fun r S1 => withL r fun vs => mk bx vs S1) = _
  rw [hl, hb]
  show (R.bind ((lcLoop none l _ l S).bind fun vs S5 => .ok (.lst vs) S5) fun r S1 => withL r fun vs => mk bx vs S1) = _
  rw [L]
  rfl
end
end Rn
set_option maxHeartbeats 1000007
/-! Draws in comprehensions, slices, and the like, for any law. -/
namespace Rn
open PySem
/-- .. that lets an exception out -/
theorem inv0x {f : List PV → Sto → R PV} {vs : List PV} {c : Xc} {S S1 : Sto} (ha : PV.nobs vs = true) (hc : PV.nobs c.args = true) (h : f vs [] = .ex c S1) : invoke f vs S = .ex c S := by
  obtain ⟨h1, h2, h3⟩ := args_plain (k := 0) ha
  unfold invoke
  rw [h1, h2]
  rw [if_pos (show (nodup [] && okArgs vs) = true by rw [h3]; rfl)]
  show (if plainS [] then match f vs [] with
      | .ok v S1 => if plainS (S1.take 0) then giveBack [] v (putBack S [] S1) S1 else .no
      | .ex c S1 => if PV.nobs c.args && plainS (S1.take 0) then .ex c (putBack S [] S1) else .no
      | .no => .no else .no) = _
  rw [if_pos (show plainS [] = true from rfl), h]
  show (if PV.nobs c.args && plainS (S1.take 0) then R.ex c (putBack S [] S1) else .no) = _
  rw [hc, show S1.take 0 = [] from rfl, if_pos (show (true && plainS []) = true from rfl), putBack_nil]
theorem shps_noxs {n : Nat} (f : ∀ v, PV.shp n v = true → v.nox = true) : ∀ l, PV.shps n l = true → PV.noxs l = true
  | [], _ => by simp only [PV.noxs]
  | a :: r, h => by
    simp only [PV.shps, Bool.and_eq_true] at h
    simp only [PV.noxs, f a h.1, shps_noxs f r h.2, Bool.and_self]
theorem shp_nox : ∀ {n : Nat} {v : PV}, PV.shp n v = true → v.nox = true := fun {n} => by
  induction n with
  | zero =>
    intro v h
    cases v <;> first | (simp only [PV.nox]; done) | (simp [PV.shp] at h)
  | succ n ih =>
    intro v h
    cases v with
    | tup l =>
      simp only [PV.shp] at h
      simp only [PV.nox]
      exact shps_noxs (fun v => ih) l h
    | lst l =>
      simp only [PV.shp] at h
      simp only [PV.nox]
      exact shps_noxs (fun v => ih) l h
    | _ => first | (simp only [PV.nox]; done) | (simp [PV.shp] at h)
theorem cut_drop {l : List PV} {M : Nat} : cut l (some (M : Int)) none = l.drop M := by
  show (l.drop (if Nat.ble M l.length then M else l.length)).take (l.length - (if Nat.ble M l.length then M else l.length)) = l.drop M
  cases q : Nat.ble M l.length with
  | true =>
    show (l.drop M).take (l.length - M) = l.drop M
    rw [List.take_of_length_le (by rw [List.length_drop]; exact Nat.le_refl _)]
  | false =>
    have z : ¬ M ≤ l.length := fun z => by
      rw [Nat.ble_eq_true_of_le z] at q
      cases q
    show (l.drop l.length).take (l.length - l.length) = l.drop M
    rw [List.drop_length, List.drop_of_length_le (by omega), List.take_nil]
theorem mkT1k {l : List PV} {S : Sto} (h : l.length ≤ 1000) : mkT l S = .ok (.tup l) S := if_pos (show Nat.ble l.length lim = true from Nat.ble_eq_true_of_le (Nat.le_trans h (by decide)))
theorem mk1k {l : List PV} {S : Sto} (h : l.length ≤ 1000) : mk false l S = .ok (.lst l) S := if_pos (show Nat.ble l.length lim = true from Nat.ble_eq_true_of_le (Nat.le_trans h (by decide)))
theorem mkB1k {l : List PV} {S : Sto} (h : l.length ≤ 1000) : mk true l S = .ok (.box S.length) (S ++ [some l]) := if_pos (show Nat.ble l.length lim = true from Nat.ble_eq_true_of_le (Nat.le_trans h (by decide)))
theorem slcT_to {l : List PV} {d : Nat} {S : Sto} (hl : l.length ≤ 1000) : sliceV false (.tup l) .non (.int (d : Int)) S = .ok (.tup (l.take d)) S := by
  show mkT (cut l none (some (d : Int))) S = _
  rw [cut_to]
  exact mkT1k (by rw [List.length_take]; omega)
theorem slcT_from {l : List PV} {d : Nat} {S : Sto} (hl : l.length ≤ 1000) : sliceV false (.tup l) (.int (d : Int)) .non S = .ok (.tup (l.drop d)) S := by
  show mkT (cut l (some (d : Int)) none) S = _
  rw [cut_drop]
  exact mkT1k (by rw [List.length_drop]; omega)
theorem idxT {l : List PV} {d : Nat} {S : Sto} (h : d < l.length) : idxV (.tup l) (.int (d : Int)) S = .ok l[d] S := by
  show opt (getI l (d : Int)) S = _
  rw [getI_nat h]
  rfl
theorem getI_last {l : List PV} {x : PV} : getI (l ++ [x]) (-1) = some x := by
  show (match (if Nat.blt 0 (l ++ [x]).length then some ((l ++ [x]).length - (0 + 1)) else none) with | some j => (l ++ [x])[j]? | none => none) = _
  have e : Nat.blt 0 (l ++ [x]).length = true := Nat.ble_eq_true_of_le (by rw [List.length_append]; simp)
  rw [e]
  show (l ++ [x])[(l ++ [x]).length - (0 + 1)]? = some x
  rw [List.length_append]
  simp
theorem seq_nx {call : Nat → List PV → Sto → R PV} {cons : Nat → Option PV} {isx : Nat → String → Bool} {nb wf : Nat} {s r : Sm} {ρ ρ1 : Env} {S S1 : Sto} (h : sx call cons isx nb wf s ρ S = .nx ρ1 S1) : sx call cons isx nb wf (.seq s r) ρ S = sx call cons isx nb wf r ρ1 S1 := by
  simp only [sx, h, F.then]
theorem rangeN (m : Nat) (h : m < 1000) : rangeOf [.int (m : Int)] = some (range1 0 m) := by
  show (if ilt (-1000000) (m : Int) && ilt (m : Int) 1000000 then some (range1 0 (m : Int).toNat) else none) = _
  rw [ilt_t (by omega), ilt_t (by omega)]
  rfl
theorem range1_len : ∀ (lo : Int) (m : Nat), (range1 lo m).length = m
  | _, 0 => rfl
  | lo, m + 1 => by
    show (range1 (lo + 1) m).length + 1 = _
    rw [range1_len]
theorem range1_eq : ∀ (lo m : Nat), range1 (lo : Int) m = (List.range' lo m).map fun (k : Nat) => PV.int (k : Int)
  | _, 0 => rfl
  | lo, m + 1 => by
    show PV.int (lo : Int) :: range1 ((lo : Int) + 1) m = _
    rw [show ((lo : Int) + 1) = ((lo + 1 : Nat) : Int) from rfl, range1_eq (lo + 1) m]
    rfl
theorem mem_range1 {m : Nat} {x : PV} (h : x ∈ range1 0 m) : ∃ k : Nat, k < m ∧ x = .int (k : Int) := by
  rw [show (0 : Int) = ((0 : Nat) : Int) from rfl, range1_eq] at h
  obtain ⟨k, hk, e⟩ := List.mem_map.mp h
  have z := List.mem_range'_1.mp hk
  exact ⟨k, by omega, e.symm⟩
section
variable {cons : Nat → Option PV} {isx : Nat → String → Bool}
theorem lcLoop_dr {P : PV → Prop} {c : Nat} {t1 B : Int} {all : List PV} {step : PV → Sto → R (List PV)} : ∀ {l : List PV}, (∀ x ∈ l, ∀ {t0 t2 n : Int}, Dr t0 t2 n → n < B → ∃ y u0 u2, step x (Tn t0 t1 t2) = .ok [y] (Tn u0 t1 u2) ∧ Dr u0 u2 (n + c) ∧ P y) → ∀ {t0 t2 n : Int}, Dr t0 t2 n → n + (c * l.length : Nat) < B →
    ∃ ys u0 u2, lcLoop none all step l (Tn t0 t1 t2) = .ok ys (Tn u0 t1 u2) ∧ ys.length = l.length ∧ (∀ y ∈ ys, P y) ∧ Dr u0 u2 (n + (c * l.length : Nat))
  | [], _, t0, t2, n, hD, _ => ⟨[], t0, t2, rfl, rfl, fun y hy => (nomatch hy), by simpa using hD⟩
  | x :: xs, h, t0, t2, n, hD, hn => by
    have e0 : c * (xs.length + 1) = c * xs.length + c := Nat.mul_succ c xs.length
    have hn : n + (c * (xs.length + 1) : Nat) < B := hn
    rw [e0] at hn
    obtain ⟨y, a0, a2, e1, D1, p1⟩ := h x List.mem_cons_self hD (by omega)
    obtain ⟨ys, b0, b2, e2, q1, q2, D2⟩ := lcLoop_dr (all := all) (l := xs) (fun z hz => h z (List.mem_cons_of_mem _ hz)) D1 (by omega)
    refine ⟨y :: ys, b0, b2, ?_, by rw [List.length_cons, List.length_cons, q1], fun z hz => ?_, ?_⟩
    · show (match step x (Tn t0 t1 t2) with
        | .ok r S1 => match lcLoop none all step xs S1 with
          | .ok r2 S2 => R.ok (r ++ r2) S2
          | _ => R.no
        | _ => R.no) = _
      rw [e1]
      show (match lcLoop none all step xs (Tn a0 t1 a2) with
          | .ok r2 S2 => R.ok ([y] ++ r2) S2
          | _ => R.no) = _
      rw [e2]
      rfl
    · rcases List.mem_cons.mp hz with z | z
      · rw [z]
        exact p1
      · exact q2 _ z
    · show Dr b0 b2 (n + (c * (xs.length + 1) : Nat))
      rw [e0]
      exact D2.up (by omega)
theorem ev_lc_dr {call : Nat → List PV → Sto → R PV} {P : PV → Prop} {c i : Nat} {t1 B : Int} {bx : Bool} {own : List Nat} {it elt : Ex} {ρ : Env} {l : List PV} {t0 t2 n : Int} (hit : ∀ S, ev call cons isx it (wipes ρ own) S = .ok (.lst l) S) (hi : i < ρ.length)
    (he : ∀ x ∈ l, ∀ {t0 t2 n : Int}, Dr t0 t2 n → n < B → ∃ y u0 u2, ev call cons isx elt ((wipes ρ own).set i (some x)) (Tn t0 t1 t2) = .ok y (Tn u0 t1 u2) ∧ Dr u0 u2 (n + c) ∧ P y) (hD : Dr t0 t2 n) (hn : n + (c * l.length : Nat) < B) :
    ∃ ys u0 u2, ev call cons isx (.lc bx own (.cl (.nm i) it (.bl true) (.one elt))) ρ (Tn t0 t1 t2) = mk bx ys (Tn u0 t1 u2) ∧ ys.length = l.length ∧ (∀ y ∈ ys, P y) ∧ Dr u0 u2 (n + (c * l.length : Nat)) := by
  have st : ∀ x S, store S (.nm i) x (wipes ρ own) = some ((wipes ρ own).set i (some x)) := fun x S => by
    show (if Nat.blt i (wipes ρ own).length then some _ else none) = _
    rw [if_pos]
    rw [wipes_len]
    exact Nat.ble_eq_true_of_le hi
  obtain ⟨ys, u0, u2, e, q1, q2, D⟩ := lcLoop_dr (P := P) (c := c) (t1 := t1) (B := B) (all := l) (l := l) (step := fun x S2 => withO (store S2 (.nm i) x (wipes ρ own)) fun ρ' => (ev call cons isx (.bl true) ρ' S2).bind fun w S3 => withO (truth S3 w) fun b =>
        if b then (ev call cons isx (.one elt) ρ' S3).bind fun r S4 => withL r fun vs => .ok vs S4 else .ok [] S3) (fun x hx t0 t2 n hD hn => by
    obtain ⟨y, u0, u2, e, D, p⟩ := he x hx hD hn
    refine ⟨y, u0, u2, ?_, D, p⟩
    show withO (store _ (.nm i) x (wipes ρ own)) _ = _
    rw [st]
    show (R.bind ((ev call cons isx elt ((wipes ρ own).set i (some x)) (Tn t0 t1 t2)).bind fun v S1 => .ok (.lst [v]) S1) fun r S4 => withL r fun vs => .ok vs S4) = _
    rw [e]
    rfl) hD hn
  refine ⟨ys, u0, u2, ?_, q1, q2, D⟩
  show (R.bind ((ev call cons isx it (wipes ρ own) (Tn t0 t1 t2)).bind fun v S1 => withO (items S1 v) fun l => (lcLoop (boxOf v) l _ l S1).bind fun vs S5 => .ok (.lst vs) S5) fun r S1 => withL r fun vs => mk bx vs S1) = _
  rw [hit]
  show (R.bind ((lcLoop none l _ l (Tn t0 t1 t2)).bind fun vs S5 => .ok (.lst vs) S5) fun r S1 => withL r fun vs => mk bx vs S1) = _
  rw [e]
  rfl
/-- two names at once, over one list beside itself -/
theorem ev_lc_zip {call : Nat → List PV → Sto → R PV} {own : List Nat} {i j : Nat} {a b elt : Ex} {ρ : Env} {S : Sto} {v : PV} {l : List PV} {g : PV → PV} (ha : ev call cons isx a (wipes ρ own) S = .ok v S) (hb : ev call cons isx b (wipes ρ own) S = .ok v S) (hl : seqOf S v = some l) (hv : boxOf v = none) (hi : i < ρ.length) (hj : j < ρ.length)
    (he : ∀ x ∈ l, ev call cons isx elt (((wipes ρ own).set i (some x)).set j (some x)) S = .ok (g x) S) :
    ev call cons isx (.lc false own (.cl (.tup (.cons (.nm i) (.cons (.nm j) .nil))) (.izip a b) (.bl true) (.one elt))) ρ S = mk false (l.map g) S := by
  have st : ∀ x, store S (.tup (.cons (.nm i) (.cons (.nm j) .nil))) (.tup [x, x]) (wipes ρ own) = some (((wipes ρ own).set i (some x)).set j (some x)) := fun x => by
    have e1 : Nat.blt i (wipes ρ own).length = true := by
      rw [wipes_len]
      exact Nat.ble_eq_true_of_le hi
    have e2 : Nat.blt j ((wipes ρ own).set i (some x)).length = true := by
      rw [List.length_set, wipes_len]
      exact Nat.ble_eq_true_of_le hj
    simp only [store, stores, e1, e2, if_true]
  have zz : ∀ l : List PV, zipL l l = l.map fun x => PV.tup [x, x] := fun l => by
    induction l with
    | nil => rfl
    | cons x r ih =>
      show PV.tup [x, x] :: zipL r r = _
      rw [ih]
      rfl
  have L := lcLoop_pure (all := zipL l l) (S := S) (l := zipL l l) (g := fun p => match p with | .tup [x, _] => [g x] | _ => []) (step := fun x S2 => withO (store S2 (.tup (.cons (.nm i) (.cons (.nm j) .nil))) x (wipes ρ own)) fun ρ' => (ev call cons isx (.bl true) ρ' S2).bind fun w S3 => withO (truth S3 w) fun b =>
        if b then (ev call cons isx (.one elt) ρ' S3).bind fun r S4 => withL r fun vs => .ok vs S4 else .ok [] S3) fun p hp => by
    rw [zz] at hp
    obtain ⟨x, hx, rfl⟩ := List.mem_map.mp hp
    show withO (store S _ (.tup [x, x]) (wipes ρ own)) _ = _
    rw [st]
    show (R.bind ((ev call cons isx elt (((wipes ρ own).set i (some x)).set j (some x)) S).bind fun v S1 => .ok (.lst [v]) S1) fun r S4 => withL r fun vs => .ok vs S4) = _
    rw [he x hx]
    rfl
  have fm : (zipL l l).flatMap (fun p => match p with | .tup [x, _] => [g x] | _ => []) = l.map g := by
    rw [zz]
    clear L he hl
    induction l with
    | nil => rfl
    | cons x r ih =>
      rw [List.map_cons, List.flatMap_cons, List.map_cons, ih]
      rfl
  rw [fm] at L
  have iz : ev call cons isx (.izip a b) (wipes ρ own) S = .ok (.lst (zipL l l)) S := by
    show ((ev call cons isx a (wipes ρ own) S).bind fun v S1 => (ev call cons isx b (wipes ρ own) S1).bind fun w S2 => withO (seqOf S2 v) fun x => withO (seqOf S2 w) fun y =>
      match boxOf v, boxOf w with
      | none, none => R.ok (PV.lst (zipL x y)) S2
      | _, _ => R.no) = _
    rw [ha]
    show ((ev call cons isx b (wipes ρ own) S).bind fun w S2 => withO (seqOf S2 v) fun x => withO (seqOf S2 w) fun y =>
      match boxOf v, boxOf w with
      | none, none => R.ok (PV.lst (zipL x y)) S2
      | _, _ => R.no) = _
    rw [hb]
    show (withO (seqOf S v) fun x => withO (seqOf S v) fun y =>
      match boxOf v, boxOf v with
      | none, none => R.ok (PV.lst (zipL x y)) S
      | _, _ => R.no) = _
    rw [hl, hv]
    rfl
  show (R.bind ((ev call cons isx (.izip a b) (wipes ρ own) S).bind fun v S1 => withO (items S1 v) fun l => (lcLoop (boxOf v) l _ l S1).bind fun vs S5 => .ok (.lst vs) S5) fun r S1 => withL r fun vs => mk false vs S1) = _
  rw [iz]
  show (R.bind ((lcLoop none (zipL l l) _ (zipL l l) S).bind fun vs S5 => .ok (.lst vs) S5) fun r S1 => withL r fun vs => mk false vs S1) = _
  rw [L]
  rfl
end
end Rn
/-! the text as data -/
namespace Lw
open Rn PySem
def b0 : Sm := (.seq (.ret (.and (.blt .isi false (.cons (.var 0) (.cons (.gty "int") .nil))) (.not (.blt .isi false (.cons (.var 0) (.cons (.gty "bool") .nil)))))) .nil)
def b1 : Sm := (.seq (.ret (.and (.blt .isi false (.cons (.var 0) (.cons (.gty "tuple") .nil))) (.and (.cmp .eq (.blt .len false (.cons (.var 0) .nil)) (.var 1)) (.blt .all false (.cons (.lc false [2] (.cl (.nm 2) (.var 0) (.bl true) (.one (.call 0 (.cons (.var 2) .nil))))) .nil))))) .nil)
def b2 : Sm := (.seq (.ife (.or (.cmp .eq (.var 1) (.int 0)) (.not (.blt .isi false (.cons (.var 0) (.cons (.tup (.cons (.gty "list") (.cons (.gty "tuple") .nil))) .nil))))) (.seq (.ret (.var 0)) .nil) .nil) (.seq (.ret (.blt .tuple false (.cons (.lc false [2] (.cl (.nm 2) (.var 0) (.bl true) (.one (.call 2 (.cons (.var 2) (.cons (.bin .sub false (.var 1) (.int 1)) .nil)))))) .nil))) .nil))
def b3 : Sm := (.seq (.ret (.and (.call 1 (.cons (.var 0) (.cons (.int 3) .nil))) (.cmp .inn (.var 0) (.gcn 0)))) .nil)
def b4 : Sm := (.seq (.asg (.nm 1) (.call 2 (.cons (.var 0) (.cons (.int 1) .nil)))) (.seq (.ife (.not (.call 3 (.cons (.var 1) .nil))) (.seq (.rai 0 .nil) .nil) .nil) (.seq (.ret (.var 1)) .nil)))
def b5 : Sm := (.seq (.ret (.mth .index false (.gcn 0) (.cons (.call 4 (.cons (.var 0) .nil)) .nil))) .nil)
def b6 : Sm := (.seq (.ret (.call 1 (.cons (.var 0) (.cons (.int 6) .nil)))) .nil)
def b7 : Sm := (.seq (.asg (.nm 1) (.call 2 (.cons (.var 0) (.cons (.int 1) .nil)))) (.seq (.ife (.not (.call 6 (.cons (.var 1) .nil))) (.seq (.rai 0 .nil) .nil) .nil) (.seq (.ret (.var 1)) .nil)))
def b8 : Sm := (.seq (.asg (.nm 1) (.call 7 (.cons (.var 0) .nil))) (.seq (.ret (.blt .tuple false (.cons (.lc false [2] (.cl (.nm 2) (.gcn 1) (.cmp .eq (.idx (.var 1) (.var 2)) (.int 0)) (.one (.var 2)))) .nil))) .nil))
def b9 : Sm := (.seq (.asg (.nm 2) (.bin .mod false (.bin .sub false (.var 1) (.var 0)) (.int 6))) (.seq (.ret (.lc false [3] (.cl (.nm 3) (.irng (.cons (.ite (.cmp .gt (.var 2) (.int 0)) (.var 2) (.int 6)) .nil)) (.bl true) (.one (.bin .mod false (.bin .add false (.var 0) (.var 3)) (.int 6)))))) .nil))
def b10 : Sm := (.seq (.asg (.nm 2) (.lst true .nil)) (.seq (.asg (.nm 3) (.lst true .nil)) (.seq (.for (.nm 4) (.var 1) (.seq (.ife (.cmp .eq (.idx (.var 0) (.var 4)) (.int 0)) (.seq (.app (.var 3) (.var 4)) .nil) (.seq (.ife (.var 3) (.seq (.app (.var 2) (.blt .tuple false (.cons (.var 3) .nil))) (.seq (.asg (.nm 3) (.lst true .nil)) .nil)) .nil) .nil)) .nil)) (.seq (.frz 2) (.seq (.ret (.ite (.var 3) (.bin .add false (.var 2) (.lst false (.cons (.blt .tuple false (.cons (.var 3) .nil)) .nil))) (.var 2))) .nil)))))
def b11 : Sm := (.seq (.asg (.tup (.cons (.nm 5) (.cons (.nm 6) .nil))) (.tup (.cons (.call 5 (.cons (.var 0) .nil)) (.cons (.call 5 (.cons (.var 1) .nil)) .nil)))) (.seq (.asg (.nm 3) (.call 7 (.cons (.var 2) .nil))) (.seq (.asg (.nm 4) (.call 10 (.cons (.var 3) (.cons (.call 9 (.cons (.var 5) (.cons (.var 6) .nil))) .nil)))) (.seq (.ife (.cmp .ne (.var 5) (.var 6)) (.seq (.asg (.nm 4) (.bin .add false (.var 4) (.call 10 (.cons (.var 3) (.cons (.call 9 (.cons (.var 6) (.cons (.var 5) .nil))) .nil))))) .nil) .nil) (.seq (.ret (.blt .tuple false (.cons (.blt .sorted false (.cons (.var 4) .nil)) .nil))) .nil)))))
def b12 : Sm := (.seq (.ret (.maxd (.lc false [3] (.cl (.nm 3) (.call 11 (.cons (.var 0) (.cons (.var 1) (.cons (.var 2) .nil)))) (.bl true) (.one (.blt .len false (.cons (.var 3) .nil))))) (.int 0))) .nil)
def b13 : Sm := (.seq (.asg (.nm 2) (.ite (.cmp .lt (.var 1) (.blt .len false (.cons (.var 0) .nil))) (.idx (.var 0) (.var 1)) (.int 0))) (.seq (.ret (.lst true (.cons (.bin .mul false (.blt .abs false (.cons (.var 2) .nil)) (.blt .int false (.cons (.cmp .ge (.blt .abs false (.cons (.var 2) .nil)) (.bin .pow false (.int 10) (.int 18))) .nil))) (.cons (.bin .add false (.bin .add false (.bin .mod false (.blt .int false (.cons (.var 2) .nil)) (.int 2305843009213693951)) (.bin .mul false (.int 39373) (.var 1))) (.int 3194015)) (.cons (.int 0) .nil))))) .nil))
def b14 : Sm := (.seq (.ife (.cmp .gt (.idx (.var 0) (.int 0)) (.int 0)) (.seq (.asg (.nm 5) (.bin .mod false (.blt .int false (.cons (.idx (.var 0) (.int 0)) .nil)) (.var 1))) (.seq (.sub (.var 0) (.int 0) (.bin .fdiv false (.idx (.var 0) (.int 0)) (.var 1))) (.seq (.ret (.var 5)) .nil))) .nil) (.seq (.sub (.var 0) (.int 2) (.bin .add false (.idx (.var 0) (.int 2)) (.int 1))) (.seq (.asg (.nm 2) (.bin .mod false (.blt .int false (.cons (.bin .mul false (.bin .add false (.idx (.var 0) (.int 1)) (.bin .mul false (.int 48271) (.idx (.var 0) (.int 2)))) (.bin .add false (.int 39373) (.idx (.var 0) (.int 2)))) .nil)) (.int 2147483647))) (.seq (.asg (.nm 3) (.bin .add false (.bin .mod false (.blt .int false (.cons (.var 2) .nil)) (.int 40009)) (.int 7))) (.seq (.asg (.nm 4) (.bin .mod false (.blt .int false (.cons (.bin .mul false (.bin .add false (.bin .add false (.var 2) (.idx (.var 0) (.int 2))) (.bin .fdiv false (.idx (.var 0) (.int 1)) (.int 1000003))) (.var 3)) .nil)) (.int 2147483629))) (.seq (.ret (.bin .mod false (.blt .int false (.cons (.bin .fdiv false (.bin .mod false (.blt .int false (.cons (.bin .add false (.bin .mul false (.var 4) (.int 48271)) (.var 2)) .nil)) (.int 2147483587)) (.int 64)) .nil)) (.var 1))) .nil))))))
def b15 : Sm := (.seq (.asg (.nm 2) (.or (.blt .list true (.cons (.slc false (.var 0) .abs (.prt (.var 1))) .nil)) (.lst true (.cons (.int 0) .nil)))) (.seq (.for (.tup (.cons (.nm 3) (.cons (.nm 4) .nil))) (.ienu (.slc false (.var 0) (.prt (.var 1)) (.prt (.int 63)))) (.seq (.asg (.nm 5) (.bin .mod false (.blt .int false (.cons (.var 3) .nil)) (.var 1))) (.seq (.sub (.var 2) (.var 5) (.bin .add false (.idx (.var 2) (.var 5)) (.bin .mul false (.var 4) (.bin .add false (.var 3) (.int 2))))) .nil))) (.seq (.frz 2) (.seq (.ret (.var 2)) .nil))))
def b16 : Sm := (.seq (.ret (.idx (.var 1) (.call 14 (.cons (.var 0) (.cons (.blt .len false (.cons (.var 1) .nil)) .nil))))) .nil)
def b17 : Sm := (.seq (.ret (.ite (.blt .isi false (.cons (.var 0) (.cons (.tup (.cons (.gty "list") (.cons (.gty "tuple") .nil))) .nil))) (.lc false [1] (.cl (.nm 1) (.var 0) (.bl true) (.one (.call 17 (.cons (.var 1) .nil))))) (.var 0))) .nil)
def b18 : Sm := (.seq (.ife (.blt .isi false (.cons (.var 1) (.cons (.tup (.cons (.gty "list") (.cons (.gty "tuple") .nil))) .nil))) (.seq (.ife (.or (.cmp .ne (.blt .isi false (.cons (.var 0) (.cons (.gty "list") .nil))) (.blt .isi false (.cons (.var 1) (.cons (.gty "list") .nil)))) (.cmp .ne (.blt .isi false (.cons (.var 0) (.cons (.gty "tuple") .nil))) (.blt .isi false (.cons (.var 1) (.cons (.gty "tuple") .nil))))) (.seq (.ret (.bl false)) .nil) .nil) (.seq (.ret (.and (.cmp .eq (.blt .len false (.cons (.var 0) .nil)) (.blt .len false (.cons (.var 1) .nil))) (.blt .all false (.cons (.lc false [2, 3] (.cl (.tup (.cons (.nm 2) (.cons (.nm 3) .nil))) (.izip (.var 0) (.var 1)) (.bl true) (.one (.call 18 (.cons (.var 2) (.cons (.var 3) .nil)))))) .nil)))) .nil)) .nil) (.seq (.ife (.or (.cmp .is (.var 1) .non) (.blt .isi false (.cons (.var 1) (.cons (.tup (.cons (.gty "bool") (.cons (.gty "str") .nil))) .nil)))) (.seq (.ret (.and (.cmp .eq (.var 0) (.var 1)) (.and (.cmp .eq (.blt .isi false (.cons (.var 0) (.cons (.gty "bool") .nil))) (.blt .isi false (.cons (.var 1) (.cons (.gty "bool") .nil)))) (.cmp .eq (.cmp .is (.var 0) .non) (.cmp .is (.var 1) .non))))) .nil) .nil) (.seq (.ret (.and (.blt .isi false (.cons (.var 0) (.cons (.gty "int") .nil))) (.and (.not (.blt .isi false (.cons (.var 0) (.cons (.gty "bool") .nil)))) (.cmp .eq (.var 0) (.var 1))))) .nil)))
def b19 : Sm := (.seq (.ret (.lst false (.cons (.tup (.cons (.int 0) (.cons (.int 1) (.cons (.int 2) .nil)))) (.cons (.tup (.cons (.int 2) (.cons (.int 1) (.cons (.int 0) .nil)))) (.cons (.tup (.cons (.int 2) (.cons (.int 0) (.cons (.int 1) .nil)))) (.cons (.tup (.cons (.int 1) (.cons (.int 0) (.cons (.int 2) .nil)))) (.cons (.tup (.cons (.int 1) (.cons (.int 2) (.cons (.int 0) .nil)))) (.cons (.tup (.cons (.int 0) (.cons (.int 2) (.cons (.int 1) .nil)))) .nil)))))))) .nil)
def b20 : Sm := (.seq (.asg (.tup (.cons (.nm 5) (.cons (.nm 6) .nil))) (.tup (.cons (.mth .index false (.call 19 .nil) (.cons (.var 0) .nil)) (.cons (.mth .index false (.call 19 .nil) (.cons (.var 1) .nil)) .nil)))) (.seq (.asg (.nm 3) (.int 0)) (.seq (.for (.nm 4) (.irng (.cons (.int 6) .nil)) (.seq (.for (.nm 7) (.irng (.cons (.int 1) (.cons (.int 7) .nil))) (.seq (.asg (.nm 8) (.lc false [10] (.cl (.nm 10) (.irng (.cons (.var 7) .nil)) (.bl true) (.one (.bin .mod false (.blt .int false (.cons (.bin .add false (.var 4) (.var 10)) .nil)) (.int 6)))))) (.seq (.asg (.nm 9) (.lc false [10] (.cl (.nm 10) (.slc false (.var 8) .abs (.prt (.neg (.int 1)))) (.bl true) (.one (.bin .mod false (.blt .int false (.cons (.bin .add false (.var 10) (.int 1)) .nil)) (.int 6)))))) (.seq (.ife (.or (.cmp .ne (.lc false [10] (.cl (.nm 10) (.var 8) (.cmp .ne (.idx (.var 2) (.var 10)) (.int 0)) (.one (.var 10)))) (.lst false .nil)) (.or (.cmp .inn (.var 5) (.var 9)) (.cmp .inn (.var 6) (.var 9)))) (.seq .cnt .nil) .nil) (.seq (.ife (.or (.cmp .lt (.var 7) (.int 6)) (.cmp .eq (.var 4) (.var 5))) (.seq (.asg (.nm 3) (.blt .max2 false (.cons (.var 3) (.cons (.var 7) .nil)))) .nil) .nil) .nil))))) .nil)) (.seq (.ret (.var 3)) .nil))))
def b21 : Sm := (.seq (.asg (.tup (.cons (.nm 5) (.cons (.nm 6) .nil))) (.tup (.cons (.mth .index false (.call 19 .nil) (.cons (.var 0) .nil)) (.cons (.mth .index false (.call 19 .nil) (.cons (.var 1) .nil)) .nil)))) (.seq (.asg (.nm 3) (.lst true .nil)) (.seq (.for (.nm 4) (.irng (.cons (.int 6) .nil)) (.seq (.for (.nm 7) (.irng (.cons (.int 1) (.cons (.int 7) .nil))) (.seq (.asg (.nm 8) (.blt .tuple false (.cons (.lc false [10] (.cl (.nm 10) (.irng (.cons (.var 7) .nil)) (.bl true) (.one (.bin .mod false (.blt .int false (.cons (.bin .add false (.var 4) (.var 10)) .nil)) (.int 6))))) .nil))) (.seq (.asg (.nm 9) (.lc false [10] (.cl (.nm 10) (.slc false (.var 8) .abs (.prt (.neg (.int 1)))) (.bl true) (.one (.bin .mod false (.blt .int false (.cons (.bin .add false (.var 10) (.int 1)) .nil)) (.int 6)))))) (.seq (.ife (.and (.cmp .eq (.lc false [10] (.cl (.nm 10) (.var 8) (.cmp .ne (.idx (.var 2) (.var 10)) (.int 0)) (.one (.var 10)))) (.lst false .nil)) (.and (.cmp .nin (.var 5) (.var 9)) (.and (.cmp .nin (.var 6) (.var 9)) (.or (.cmp .lt (.var 7) (.int 6)) (.chn .eq .eq (.var 4) (.var 5) (.var 6)))))) (.seq (.app (.var 3) (.var 8)) .nil) .nil) .nil)))) .nil)) (.seq (.ret (.blt .tuple false (.cons (.blt .sorted false (.cons (.lc false [10] (.cl (.nm 10) (.var 3) (.cmp .eq (.lc false [11] (.cl (.nm 11) (.var 3) (.and (.cmp .gt (.blt .len false (.cons (.var 11) .nil)) (.blt .len false (.cons (.var 10) .nil))) (.call 22 (.cons (.var 10) (.cons (.var 11) .nil)))) (.one (.int 1)))) (.lst false .nil)) (.one (.var 10)))) .nil)) .nil))) .nil))))
def b22 : Sm := (.seq (.ret (.cmp .ne (.lc false [2] (.cl (.nm 2) (.irng (.cons (.blt .len false (.cons (.var 1) .nil)) .nil)) (.cmp .eq (.slc false (.var 1) (.prt (.var 2)) (.prt (.bin .add false (.var 2) (.blt .len false (.cons (.var 0) .nil))))) (.var 0)) (.one (.int 1)))) (.lst false .nil))) .nil)
def b23 : Sm := (.seq (.asg (.tup (.cons (.nm 2) (.cons (.nm 3) (.cons (.nm 4) .nil)))) (.tup (.cons (.tup (.cons (.int 0) (.cons (.int 1) (.cons (.int 2) .nil)))) (.cons (.tup (.cons (.int 2) (.cons (.int 0) (.cons (.int 1) .nil)))) (.cons (.tup (.cons (.int 0) (.cons (.int 0) (.cons (.int 0) (.cons (.int 0) (.cons (.int 0) (.cons (.int 0) .nil))))))) .nil))))) (.seq (.asg (.nm 0) (.lst false (.cons (.call 8 (.cons (.tup (.cons (.int 1) (.cons (.int 1) (.cons (.int 0) (.cons (.int 0) (.cons (.int 0) (.cons (.int 0) .nil))))))) .nil)) (.cons (.call 11 (.cons (.var 2) (.cons (.var 3) (.cons (.tup (.cons (.int 1) (.cons (.int 1) (.cons (.int 0) (.cons (.int 0) (.cons (.int 0) (.cons (.int 0) .nil))))))) .nil)))) (.cons (.call 12 (.cons (.var 2) (.cons (.var 3) (.cons (.tup (.cons (.int 1) (.cons (.int 1) (.cons (.int 0) (.cons (.int 0) (.cons (.int 0) (.cons (.int 0) .nil))))))) .nil)))) .nil))))) (.seq (.asg (.nm 1) (.lst false (.cons (.tup (.cons (.int 2) (.cons (.int 3) (.cons (.int 4) (.cons (.int 5) .nil))))) (.cons (.tup (.cons (.tup (.cons (.int 2) (.cons (.int 3) (.cons (.int 4) (.cons (.int 5) .nil))))) .nil)) (.cons (.int 4) .nil))))) (.seq (.asg (.nm 0) (.bin .add false (.bin .add false (.var 0) (.lc false [5] (.cl (.nm 5) (.tup (.cons (.var 4) (.cons (.tup (.cons (.int 0) (.cons (.int 2) (.cons (.int 0) (.cons (.int 0) (.cons (.int 0) (.cons (.int 0) .nil))))))) .nil))) (.bl true) (.one (.call 11 (.cons (.var 2) (.cons (.var 2) (.cons (.var 5) .nil)))))))) (.lc false [5] (.cl (.nm 5) (.tup (.cons (.var 4) (.cons (.tup (.cons (.int 0) (.cons (.int 2) (.cons (.int 0) (.cons (.int 0) (.cons (.int 0) (.cons (.int 0) .nil))))))) .nil))) (.bl true) (.one (.call 12 (.cons (.var 2) (.cons (.var 2) (.cons (.var 5) .nil))))))))) (.seq (.asg (.nm 1) (.bin .add false (.var 1) (.lst false (.cons (.tup (.cons (.tup (.cons (.int 0) (.cons (.int 1) (.cons (.int 2) (.cons (.int 3) (.cons (.int 4) (.cons (.int 5) .nil))))))) .nil)) (.cons (.tup (.cons (.tup (.cons (.int 0) .nil)) (.cons (.tup (.cons (.int 2) (.cons (.int 3) (.cons (.int 4) (.cons (.int 5) .nil))))) .nil))) (.cons (.int 6) (.cons (.int 4) .nil))))))) (.seq (.asg (.nm 0) (.bin .add false (.var 0) (.lst false (.cons (.call 11 (.cons (.var 3) (.cons (.var 3) (.cons (.var 4) .nil)))) (.cons (.call 12 (.cons (.var 2) (.cons (.var 3) (.cons (.tup (.cons (.int 1) (.cons (.int 1) (.cons (.int 1) (.cons (.int 1) (.cons (.int 1) (.cons (.int 1) .nil))))))) .nil)))) (.cons (.call 11 (.cons (.var 2) (.cons (.var 3) (.cons (.tup (.cons (.int 1) (.cons (.int 1) (.cons (.int 2) (.cons (.int 0) (.cons (.int 0) (.cons (.int 2) .nil))))))) .nil)))) (.cons (.call 11 (.cons (.var 2) (.cons (.var 3) (.cons (.var 4) .nil)))) .nil))))))) (.seq (.asg (.nm 1) (.bin .add false (.var 1) (.lst false (.cons (.tup (.cons (.tup (.cons (.int 2) (.cons (.int 3) (.cons (.int 4) (.cons (.int 5) (.cons (.int 0) (.cons (.int 1) .nil))))))) .nil)) (.cons (.int 0) (.cons (.tup (.cons (.tup (.cons (.int 3) (.cons (.int 4) .nil))) .nil)) (.cons (.tup (.cons (.tup (.cons (.int 0) (.cons (.int 1) .nil))) (.cons (.tup (.cons (.int 2) (.cons (.int 3) (.cons (.int 4) (.cons (.int 5) .nil))))) .nil))) .nil))))))) (.seq (.asg (.nm 0) (.bin .add false (.var 0) (.lst false (.cons (.call 11 (.cons (.tup (.cons (.int 1) (.cons (.int 0) (.cons (.int 2) .nil)))) (.cons (.tup (.cons (.int 1) (.cons (.int 0) (.cons (.int 2) .nil)))) (.cons (.tup (.cons (.int 0) (.cons (.int 0) (.cons (.int 0) (.cons (.int 1) (.cons (.int 0) (.cons (.int 0) .nil))))))) .nil)))) (.cons (.call 11 (.cons (.tup (.cons (.int 2) (.cons (.int 1) (.cons (.int 0) .nil)))) (.cons (.tup (.cons (.int 1) (.cons (.int 2) (.cons (.int 0) .nil)))) (.cons (.tup (.cons (.int 2) (.cons (.int 0) (.cons (.int 0) (.cons (.int 0) (.cons (.int 0) (.cons (.int 0) .nil))))))) .nil)))) (.cons (.call 12 (.cons (.tup (.cons (.int 2) (.cons (.int 1) (.cons (.int 0) .nil)))) (.cons (.tup (.cons (.int 1) (.cons (.int 2) (.cons (.int 0) .nil)))) (.cons (.tup (.cons (.int 2) (.cons (.int 0) (.cons (.int 0) (.cons (.int 0) (.cons (.int 0) (.cons (.int 0) .nil))))))) .nil)))) .nil)))))) (.seq (.ret (.call 18 (.cons (.var 0) (.cons (.bin .add false (.var 1) (.lst false (.cons (.tup (.cons (.tup (.cons (.int 4) (.cons (.int 5) (.cons (.int 0) (.cons (.int 1) (.cons (.int 2) .nil)))))) .nil)) (.cons (.tup (.cons (.tup (.cons (.int 1) (.cons (.int 2) (.cons (.int 3) .nil)))) (.cons (.tup (.cons (.int 4) (.cons (.int 5) .nil))) .nil))) (.cons (.int 3) .nil))))) .nil)))) .nil)))))))))
def b24 : Sm := (.seq (.asg (.tup (.cons (.nm 2) (.cons (.nm 3) (.cons (.nm 4) .nil)))) (.tup (.cons (.call 16 (.cons (.var 0) (.cons (.call 19 .nil) .nil))) (.cons (.call 16 (.cons (.var 0) (.cons (.call 19 .nil) .nil))) (.cons (.call 16 (.cons (.var 0) (.cons (.lst false (.cons (.int 2) (.cons (.int 2) (.cons (.bin .pow false (.int 10) (.int 12)) .nil)))) .nil))) .nil))))) (.seq (.for (.nm 1) (.irng (.cons (.int 4) .nil)) (.seq (.asg (.nm 5) (.blt .tuple false (.cons (.lc false [8] (.cl (.nm 8) (.irng (.cons (.int 6) .nil)) (.bl true) (.one (.ite (.cmp .gt (.call 14 (.cons (.var 0) (.cons (.int 3) .nil))) (.int 0)) (.int 0) (.bin .sub false (.call 14 (.cons (.var 0) (.cons (.bin .add false (.bin .mul false (.int 2) (.var 4)) (.int 1)) .nil))) (.var 4)))))) .nil))) (.seq (.asg (.nm 6) (.call 21 (.cons (.var 2) (.cons (.var 3) (.cons (.var 5) .nil))))) (.seq (.asg (.nm 7) (.lst false (.cons (.calk 8 [0] (.cons (.call 17 (.cons (.var 5) .nil)) .nil)) (.cons (.calk 11 [1, 2, 0] (.cons (.call 17 (.cons (.var 5) .nil)) (.cons (.var 2) (.cons (.call 17 (.cons (.var 3) .nil)) .nil)))) (.cons (.calk 12 [1, 0, 2] (.cons (.var 3) (.cons (.call 17 (.cons (.var 2) .nil)) (.cons (.var 5) .nil)))) .nil))))) (.seq (.ife (.not (.call 18 (.cons (.var 7) (.cons (.lst false (.cons (.blt .tuple false (.cons (.lc false [8] (.cl (.nm 8) (.irng (.cons (.int 6) .nil)) (.cmp .eq (.idx (.var 5) (.var 8)) (.int 0)) (.one (.var 8)))) .nil)) (.cons (.var 6) (.cons (.call 20 (.cons (.var 2) (.cons (.var 3) (.cons (.var 5) .nil)))) .nil)))) .nil)))) (.seq (.ret (.bl false)) .nil) .nil) (.seq (.ife (.cmp .ne (.call 20 (.cons (.var 2) (.cons (.var 3) (.cons (.var 5) .nil)))) (.blt .max false (.cons (.bin .add false (.lc false [9] (.cl (.nm 9) (.var 6) (.bl true) (.one (.blt .len false (.cons (.var 9) .nil))))) (.lst false (.cons (.int 0) .nil))) .nil))) (.seq (.ret (.bl false)) .nil) .nil) (.seq (.asg (.nm 2) (.ite (.cmp .eq (.call 14 (.cons (.var 0) (.cons (.int 2) .nil))) (.int 0)) (.var 3) (.call 16 (.cons (.var 0) (.cons (.call 19 .nil) .nil))))) .nil))))))) (.seq (.ret (.bl true)) .nil)))
def b25 : Sm := (.seq (.ife (.not (.call 23 .nil)) (.seq (.ret (.bl false)) .nil) .nil) (.seq (.asg (.nm 1) (.call 15 (.cons (.var 0) (.cons (.int 2) .nil)))) (.seq (.ret (.blt .all false (.cons (.lc false [2] (.cl (.nm 2) (.irng (.cons (.blt .len false (.cons (.var 1) .nil)) .nil)) (.bl true) (.one (.call 24 (.cons (.call 13 (.cons (.var 1) (.cons (.var 2) .nil))) .nil))))) .nil))) .nil)))
def fnL0 : List Str := [⟨#[105, 115, 95, 110, 117, 109, 98, 101, 114]⟩, ⟨#[97, 114, 101, 95, 110, 117, 109, 98, 101, 114, 115]⟩, ⟨#[116, 117, 112, 108, 101, 100]⟩, ⟨#[105, 115, 95, 115, 104, 97, 112, 101]⟩, ⟨#[102, 105, 116, 95, 115, 104, 97, 112, 101]⟩, ⟨#[112, 111, 115, 105, 116, 105, 111, 110]⟩, ⟨#[105, 115, 95, 99, 111, 117, 110, 116, 115]⟩, ⟨#[102, 105, 116, 95, 99, 111, 117, 110, 116, 115]⟩, ⟨#[102, 114, 101, 101, 95, 108, 105, 110, 107, 115]⟩, ⟨#[108, 105, 110, 107, 115, 95, 102, 114, 111, 109]⟩, ⟨#[102, 114, 101, 101, 95, 114, 117, 110, 115]⟩, ⟨#[102, 114, 101, 101, 95, 115, 116, 114, 101, 116, 99, 104, 101, 115]⟩, ⟨#[103, 97, 112]⟩, ⟨#[95, 108, 97, 119, 95, 98, 111, 120]⟩, ⟨#[95, 108, 97, 119, 95, 116, 97, 107, 101]⟩, ⟨#[95, 108, 97, 119, 95, 99, 101, 108, 108, 115]⟩, ⟨#[95, 108, 97, 119, 95, 111, 102]⟩, ⟨#[95, 108, 97, 119, 95, 108, 105, 115, 116, 115]⟩, ⟨#[95, 108, 97, 119, 95, 115, 97, 109, 101]⟩, ⟨#[95, 108, 97, 119, 95, 112, 111, 115, 101, 115]⟩]
def fnL1 : List Str := [⟨#[95, 108, 97, 119, 95, 103, 97, 112]⟩, ⟨#[95, 108, 97, 119, 95, 114, 117, 110, 115]⟩, ⟨#[95, 108, 97, 119, 95, 108, 105, 101, 115, 95, 105, 110]⟩, ⟨#[95, 108, 97, 119, 95, 98, 121, 95, 104, 97, 110, 100, 95, 114, 105, 103, 104, 116]⟩, ⟨#[95, 108, 97, 119, 95, 114, 105, 103, 104, 116]⟩, ⟨#[108, 97, 119]⟩]
def fnL : List Str := fnL0 ++ (fnL1)
def cnL0 : List Str := [⟨#[82, 73, 78, 71]⟩, ⟨#[76, 73, 78, 75, 83]⟩]
def cnL : List Str := cnL0
def clL0 : List Str := [⟨#[85, 110, 102, 105, 116]⟩]
def clL : List Str := clL0
def tfL0 : List Fn := [⟨1, 1, b0⟩, ⟨2, 3, b1⟩, ⟨2, 3, b2⟩, ⟨1, 1, b3⟩, ⟨1, 2, b4⟩, ⟨1, 1, b5⟩, ⟨1, 1, b6⟩, ⟨1, 2, b7⟩, ⟨1, 3, b8⟩, ⟨2, 4, b9⟩, ⟨2, 5, b10⟩, ⟨3, 7, b11⟩, ⟨3, 4, b12⟩, ⟨2, 3, b13⟩, ⟨2, 6, b14⟩, ⟨2, 6, b15⟩, ⟨2, 2, b16⟩, ⟨1, 2, b17⟩, ⟨2, 4, b18⟩, ⟨0, 0, b19⟩]
def tfL1 : List Fn := [⟨3, 11, b20⟩, ⟨3, 12, b21⟩, ⟨2, 3, b22⟩, ⟨0, 6, b23⟩, ⟨1, 10, b24⟩, ⟨1, 3, b25⟩]
def tfL : List Fn := tfL0 ++ (tfL1)
def cvL0 : List PV := [.tup [.tup [.int 0, .int 1, .int 2], .tup [.int 2, .int 1, .int 0], .tup [.int 2, .int 0, .int 1], .tup [.int 1, .int 0, .int 2], .tup [.int 1, .int 2, .int 0], .tup [.int 0, .int 2, .int 1]], .tup [.int 0, .int 1, .int 2, .int 3, .int 4, .int 5]]
def cvL : List PV := cvL0
def pmL0 : List (List Str) := [[⟨#[116, 104, 105, 110, 103]⟩], [⟨#[116, 104, 105, 110, 103]⟩, ⟨#[109, 97, 110, 121]⟩], [⟨#[118, 97, 108, 117, 101]⟩, ⟨#[108, 101, 118, 101, 108, 115]⟩], [⟨#[116, 104, 105, 110, 103]⟩], [⟨#[115, 104, 97, 112, 101]⟩], [⟨#[115, 104, 97, 112, 101]⟩], [⟨#[116, 104, 105, 110, 103]⟩], [⟨#[99, 111, 117, 110, 116, 115]⟩], [⟨#[99, 111, 117, 110, 116, 115]⟩], [⟨#[115, 116, 97, 114, 116]⟩, ⟨#[101, 110, 100]⟩], [⟨#[99, 111, 117, 110, 116, 115]⟩, ⟨#[108, 105, 110, 107, 115]⟩], [⟨#[115, 104, 97, 112, 101]⟩, ⟨#[111, 116, 104, 101, 114]⟩, ⟨#[99, 111, 117, 110, 116, 115]⟩], [⟨#[115, 104, 97, 112, 101]⟩, ⟨#[111, 116, 104, 101, 114]⟩, ⟨#[99, 111, 117, 110, 116, 115]⟩], [⟨#[115, 99, 114, 105, 112, 116]⟩, ⟨#[107]⟩], [⟨#[116, 105, 110]⟩, ⟨#[98, 101, 108, 111, 119, 95, 115, 111]⟩], [⟨#[115, 99, 114, 105, 112, 116]⟩, ⟨#[109, 111, 115, 116, 95, 115, 111]⟩], [⟨#[116, 105, 110]⟩, ⟨#[103, 111, 111, 100, 115, 95, 115, 111]⟩], [⟨#[109, 97, 116, 116, 101, 114]⟩], [⟨#[103, 111, 116]⟩, ⟨#[100, 117, 101]⟩], []]
def pmL1 : List (List Str) := [[⟨#[111, 110, 101]⟩, ⟨#[116, 119, 111]⟩, ⟨#[116, 97, 108, 108, 121]⟩], [⟨#[111, 110, 101]⟩, ⟨#[116, 119, 111]⟩, ⟨#[116, 97, 108, 108, 121]⟩], [⟨#[112, 97, 114, 116, 95, 115, 111]⟩, ⟨#[114, 117, 110, 95, 115, 111]⟩], [], [⟨#[116, 105, 110]⟩], [⟨#[115, 99, 114, 105, 112, 116]⟩]]
def pmL : List (List Str) := pmL0 ++ (pmL1)
def dsL0 : List (Nat × List Str) := [(3, [⟨#[116, 104, 105, 110, 103]⟩]), (4, [⟨#[116, 104, 105, 110, 103]⟩, ⟨#[109, 97, 110, 121]⟩, ⟨#[111, 119, 110]⟩]), (5, [⟨#[118, 97, 108, 117, 101]⟩, ⟨#[108, 101, 118, 101, 108, 115]⟩, ⟨#[111, 119, 110]⟩]), (9, [⟨#[116, 104, 105, 110, 103]⟩]), (10, [⟨#[115, 104, 97, 112, 101]⟩, ⟨#[111, 119, 110]⟩]), (11, [⟨#[115, 104, 97, 112, 101]⟩]), (13, [⟨#[116, 104, 105, 110, 103]⟩]), (14, [⟨#[99, 111, 117, 110, 116, 115]⟩, ⟨#[111, 119, 110]⟩]), (16, [⟨#[99, 111, 117, 110, 116, 115]⟩, ⟨#[111, 119, 110]⟩, ⟨#[108, 105, 110, 107]⟩]), (17, [⟨#[115, 116, 97, 114, 116]⟩, ⟨#[101, 110, 100]⟩, ⟨#[115, 116, 101, 112, 115]⟩, ⟨#[115, 116, 101, 112]⟩])]
def dsL1 : List (Nat × List Str) := [(18, [⟨#[99, 111, 117, 110, 116, 115]⟩, ⟨#[108, 105, 110, 107, 115]⟩, ⟨#[114, 117, 110, 115]⟩, ⟨#[114, 117, 110]⟩, ⟨#[108, 105, 110, 107]⟩]), (19, [⟨#[115, 104, 97, 112, 101]⟩, ⟨#[111, 116, 104, 101, 114]⟩, ⟨#[99, 111, 117, 110, 116, 115]⟩, ⟨#[111, 119, 110]⟩, ⟨#[114, 117, 110, 115]⟩, ⟨#[115, 116, 97, 114, 116]⟩, ⟨#[101, 110, 100]⟩]), (20, [⟨#[115, 104, 97, 112, 101]⟩, ⟨#[111, 116, 104, 101, 114]⟩, ⟨#[99, 111, 117, 110, 116, 115]⟩, ⟨#[114, 117, 110]⟩]), (22, [⟨#[115, 99, 114, 105, 112, 116]⟩, ⟨#[107]⟩, ⟨#[98, 105, 116, 95, 115, 111]⟩]), (23, [⟨#[116, 105, 110]⟩, ⟨#[98, 101, 108, 111, 119, 95, 115, 111]⟩, ⟨#[111, 110, 99, 101, 95, 115, 111]⟩, ⟨#[119, 105, 100, 101, 95, 115, 111]⟩, ⟨#[116, 119, 105, 99, 101, 95, 115, 111]⟩, ⟨#[100, 114, 97, 119, 110]⟩]), (24, [⟨#[115, 99, 114, 105, 112, 116]⟩, ⟨#[109, 111, 115, 116, 95, 115, 111]⟩, ⟨#[99, 101, 108, 108, 115, 95, 115, 111]⟩, ⟨#[107]⟩, ⟨#[98, 105, 116, 95, 115, 111]⟩, ⟨#[97, 116, 95, 115, 111]⟩]), (25, [⟨#[116, 105, 110]⟩, ⟨#[103, 111, 111, 100, 115, 95, 115, 111]⟩]), (26, [⟨#[109, 97, 116, 116, 101, 114]⟩, ⟨#[98, 105, 116]⟩]), (27, [⟨#[103, 111, 116]⟩, ⟨#[100, 117, 101]⟩, ⟨#[109, 105, 110, 101]⟩, ⟨#[105, 116, 115]⟩]), (28, [])]
def dsL2 : List (Nat × List Str) := [(29, [⟨#[111, 110, 101]⟩, ⟨#[116, 119, 111]⟩, ⟨#[116, 97, 108, 108, 121]⟩, ⟨#[98, 101, 115, 116, 95, 115, 111]⟩, ⟨#[107]⟩, ⟨#[97]⟩, ⟨#[98]⟩, ⟨#[108, 111, 110, 103, 95, 115, 111]⟩, ⟨#[114, 117, 110, 95, 115, 111]⟩, ⟨#[105, 110, 115, 105, 100, 101, 95, 115, 111]⟩, ⟨#[111, 119, 110]⟩]), (30, [⟨#[111, 110, 101]⟩, ⟨#[116, 119, 111]⟩, ⟨#[116, 97, 108, 108, 121]⟩, ⟨#[102, 111, 117, 110, 100]⟩, ⟨#[107]⟩, ⟨#[97]⟩, ⟨#[98]⟩, ⟨#[108, 111, 110, 103, 95, 115, 111]⟩, ⟨#[114, 117, 110, 95, 115, 111]⟩, ⟨#[105, 110, 115, 105, 100, 101, 95, 115, 111]⟩, ⟨#[111, 119, 110]⟩, ⟨#[105, 116, 115]⟩]), (31, [⟨#[112, 97, 114, 116, 95, 115, 111]⟩, ⟨#[114, 117, 110, 95, 115, 111]⟩, ⟨#[107]⟩]), (32, [⟨#[103, 111, 116]⟩, ⟨#[100, 117, 101]⟩, ⟨#[115, 116, 97, 114, 116]⟩, ⟨#[108, 97, 115, 116]⟩, ⟨#[102, 108, 97, 116]⟩, ⟨#[111, 119, 110]⟩]), (33, [⟨#[116, 105, 110]⟩, ⟨#[108, 97, 112]⟩, ⟨#[111, 110, 101]⟩, ⟨#[116, 119, 111]⟩, ⟨#[104, 105, 103, 104, 95, 115, 111]⟩, ⟨#[116, 97, 108, 108, 121]⟩, ⟨#[114, 117, 110, 115, 95, 115, 111]⟩, ⟨#[103, 111, 116]⟩, ⟨#[107]⟩, ⟨#[111, 119, 110]⟩]), (34, [⟨#[115, 99, 114, 105, 112, 116]⟩, ⟨#[99, 101, 108, 108, 115, 95, 115, 111]⟩, ⟨#[107]⟩])]
def dsL : List (Nat × List Str) := dsL0 ++ (dsL1 ++ (dsL2))
def t : Txt := ⟨⟨fnL, cnL, clL, [0], pmL⟩, tfL, cvL, ["ValueError"], dsL, 25⟩
end Lw
set_option maxHeartbeats 0
/-! the head -/
namespace Lw
open PySem PySem.Spec PyProof.Rows L2 Rn
def nm0 : List PySem.Str := ["Unfit", "is_number", "are_numbers", "tupled", "RING", "LINKS", "is_shape", "fit_shape", "position", "is_counts", "fit_counts", "free_links", "links_from", "free_runs", "free_stretches", "gap", "_law_box", "_law_take", "_law_cells", "_law_of", "_law_lists", "_law_same", "_law_poses", "_law_gap", "_law_runs", "_law_lies_in", "_law_by_hand_right", "_law_right"]
def nms : List PySem.Str := nm0
abbrev Rw : PySem.W.OpenRow := PySem.W.OpenLaw.row PySem.Challenge.rw_movedchest_k15_whole_gaps_by_own_runs
abbrev fns : List He.DefD := t.ds.map fun q => defD PySem.Challenge.rw_movedchest_k15_whole_gaps_by_own_runs.prog q.1
abbrev hk : PySem.W.Hook := hookF 3 t.fas fns t.ex
def ob (s : PySem.W.SharedT) : He.AlD × Bool := obsF 3 t.fas fns t.ex (HandSHeadRun.getT s)
theorem ob_eq (s : PySem.W.SharedT) : ob s = hk.obs s.abs := obsF_eq (HandSHeadRun.getT_eq s)
theorem headRun (w : World) : HandSHeadRun.RunEq Rw (PySem.W.view Rw.prog [34]) hk ob 4000 nms w := by
  intro os
  kernel_rfl
theorem look : defsB t.T PySem.Challenge.rw_movedchest_k15_whole_gaps_by_own_runs.prog t.T.fn t.ds t.Tf = true := by decide +kernel
end Lw
set_option maxHeartbeats 0
namespace Lw
open Rn PySem
structure Sd where
  c : Nat
  x0 : Int
  x1 : Int
  x2 : Int
  y0 : Int
  y1 : Int
  y2 : Int
  f0 : Int
  f1 : Int
  f2 : Int
deriving DecidableEq
def tipV : PV := .str ⟨#[116, 105, 112]⟩
def turnV : PV := .str ⟨#[116, 117, 114, 110]⟩
def tri (a b c : Int) : PV := .tup [.int a, .int b, .int c]
def ringC : List PV := [.tup [.int 0, .int 1, .int 2], .tup [.int 2, .int 1, .int 0], .tup [.int 2, .int 0, .int 1], .tup [.int 1, .int 0, .int 2], .tup [.int 1, .int 2, .int 0], .tup [.int 0, .int 2, .int 1]]
def poseC (c : Nat) : PV := ringC.getD c .non
def tipsL : List PV := [.tup [tipV, .int 0], .tup [tipV, .int 1], .tup [tipV, .int 2], .tup [tipV, .int 3]]
def turnsL : List PV := [.tup [turnV, .int 0, .int 1], .tup [turnV, .int 1, .int 1], .tup [turnV, .int 2, .int 1], .tup [turnV, .int 3, .int 1], .tup [turnV, .int 0, .int (-1)], .tup [turnV, .int 1, .int (-1)], .tup [turnV, .int 2, .int (-1)], .tup [turnV, .int 3, .int (-1)]]
def stepsL : List PV := tipsL ++ turnsL
def mv (d : Nat) : PV := stepsL.getD d .non
def pv (s : Sd) : PV := .tup [poseC s.c, tri s.x0 s.x1 s.x2, tri s.y0 s.y1 s.y2, tri s.f0 s.f1 s.f2]
theorem toR {k f : Nat} {vs : List PV} {S : Sto} {r : Rn.R PV} (h : runF t.tf t.cons t.isx 3000 k f vs S = r) : run t.tf t.cons t.isx 3000 k f vs S = r := by
  rw [run_fast]
  exact h
structure Ok (s : Sd) : Prop where
  c : s.c < 6
  f0 : s.f0 ≠ 0
  f1 : s.f1 ≠ 0
  f2 : s.f2 ≠ 0
theorem pose_eq : ∀ c, c < 6 → ∀ c', c' < 6 → (poseC c).beq (poseC c') = decide (c = c') := by decide +kernel
theorem pose_shp : ∀ c, c < 6 → PV.shp 1 (poseC c) = true := by decide +kernel
theorem beqI (i j : Int) : (PV.int i).beq (.int j) = decide (i = j) := by
  simp only [PV.beq]
  rw [Bool.eq_iff_iff]
  simp
theorem tri_beq (a b c x y z : Int) : (tri a b c).beq (tri x y z) = (decide (a = x) && (decide (b = y) && decide (c = z))) := by
  simp only [tri, PV.beq, PV.beqs, Bool.and_true]
  simp only [← beqI, PV.beq]
theorem pv_shp {s : Sd} (h : Ok s) : PV.shp 3 (pv s) = true := by
  have p := shp_up (pose_shp _ h.c) 1
  show PV.shps 2 [poseC s.c, tri s.x0 s.x1 s.x2, tri s.y0 s.y1 s.y2, tri s.f0 s.f1 s.f2] = true
  simp only [PV.shps, p, Bool.true_and]
  rfl
theorem mv_shp : ∀ d, d < 12 → PV.shp 1 (mv d) = true := by decide +kernel
theorem blt_len {bx : Bool} {l : List PV} {S : Sto} : blt .len bx [.tup l] S = .ok (.int l.length) S := rfl
theorem blt_isi {bx : Bool} {v w : PV} {S : Sto} : blt .isi bx [v, w] S = withO (isi (der S v) w) fun b => .ok (.bl b) S := rfl
theorem blt_tup {l : List PV} {S : Sto} : blt .tuple false [.lst l] S = mkT l S := rfl
theorem blt_all {l : List PV} {S : Sto} : blt .all false [.lst l] S = withO (bools l) fun l => .ok (.bl (andAll l)) S := rfl
theorem der_tup (S : Sto) (l : List PV) : der S (.tup l) = .tup l := rfl
theorem der_lst (S : Sto) (l : List PV) : der S (.lst l) = .lst l := rfl
theorem der_int (S : Sto) (i : Int) : der S (.int i) = .int i := rfl
theorem eqD_int (i j : Int) : eqD (.int i) (.int j) = some (i == j) := by
  simp [eqD, PV.shp, PV.beq]
theorem isi_T2 (l : List PV) : isi (.tup l) (.tup [.ty "list", .ty "tuple"]) = some true := rfl
theorem isi_L2 (l : List PV) : isi (.lst l) (.tup [.ty "list", .ty "tuple"]) = some true := rfl
theorem isi_T (l : List PV) : isi (.tup l) (.ty "tuple") = some true := rfl
theorem all_true : ∀ l : List PV, bools (l.map fun _ => PV.bl true) = some (l.map fun _ => true) ∧ andAll (l.map fun _ => true) = true
  | [] => ⟨rfl, rfl⟩
  | a :: r => by
    obtain ⟨h1, h2⟩ := all_true r
    refine ⟨?_, h2⟩
    show (match bools (r.map fun _ => PV.bl true) with | some l => some (true :: l) | none => none) = _
    rw [h1]
    rfl
def Sts (l : List PV) : Prop := ∀ x ∈ l, ∃ s, Ok s ∧ x = pv s
theorem Sts.nob {l : List PV} (h : Sts l) : PV.nobs l = true := shps_nob (n := 3) (shps_mem.mpr fun x hx => by
  obtain ⟨s, hs, rfl⟩ := h x hx
  exact pv_shp hs)
structure Okk (s : Sd) : Prop where
  c : s.c < 6
  f0 : s.f0 = 1 ∨ s.f0 = -1
  f1 : s.f1 = 1 ∨ s.f1 = -1
  f2 : s.f2 = 1 ∨ s.f2 = -1
theorem Okk.ok {s : Sd} (h : Okk s) : Ok s := ⟨h.c, by rcases h.f0 with z | z <;> rw [z] <;> decide, by rcases h.f1 with z | z <;> rw [z] <;> decide, by rcases h.f2 with z | z <;> rw [z] <;> decide⟩
def okv : Rn.R PV → Option PV
  | .ok v _ => some v
  | _ => none
theorem okv_ok {r : Rn.R PV} {v : PV} (h : okv r = some v) : ∃ S, r = .ok v S := by
  cases r with
  | ok w S =>
    simp only [okv, Option.some.injEq] at h
    exact ⟨S, by rw [h]⟩
  | _ => cases h
theorem at18 : t.tf 18 = some ⟨2, 4, b18⟩ := rfl
theorem ty2 (S : Sto) : mkT [PV.ty "list", PV.ty "tuple"] S = .ok (.tup [.ty "list", .ty "tuple"]) S := rfl
theorem ty3 (S : Sto) : mkT [PV.ty "bool", PV.ty "str"] S = .ok (.tup [.ty "bool", .ty "str"]) S := rfl
theorem sameI {k : Nat} {i : Int} {S : Sto} : invoke (run t.tf t.cons t.isx 3000 (k + 1) 18) [.int i, .int i] S = .ok (.bl true) S := by
  refine inv0 (S1 := []) rfl rfl ?_
  have e1 : isi (.int i) (.tup [.ty "list", .ty "tuple"]) = some false := rfl
  have e2 : isi (.int i) (.tup [.ty "bool", .ty "str"]) = some false := rfl
  have e3 : isi (.int i) (.ty "int") = some true := rfl
  have e4 : isi (.int i) (.ty "bool") = some false := rfl
  have e5 : isNone (.int i) = some false := rfl
  rw [run_fn at18 rfl]
  simp only [b18, sx, onR, onO, F.then, ev, getV, R.bind, withL, withO, opt, mth, seqOf, lstOf, List.map_cons, List.map_nil, List.cons_append, List.nil_append, List.replicate, List.getElem?_cons_zero, List.getElem?_cons_succ, truth, cmpop, wipes, List.set, items, boxOf, lcLoop, stays, store, stores, Nat.blt, Nat.ble, bools, orAll, andAll, endR, List.length_cons, List.length_nil, if_true, if_false, Bool.false_eq_true, Bool.not_true, Bool.not_false, Nat.reduceAdd, Nat.reduceSub, ty2, ty3, blt_isi, der_int, e1, e2, e3, e4, e5, eqD_int, beq_self_eq_true]
theorem sameB {k : Nat} {b : Bool} {S : Sto} : invoke (run t.tf t.cons t.isx 3000 (k + 1) 18) [.bl b, .bl b] S = .ok (.bl true) S := inv0 (S1 := []) rfl rfl (toR (by cases b <;> kernel_rfl))
theorem eqD_bl (a : Bool) : eqD (.bl a) (.bl a) = some true := by cases a <;> rfl
theorem der_bl (S : Sto) (b : Bool) : der S (.bl b) = .bl b := rfl
theorem blt_lenL {bx : Bool} {l : List PV} {S : Sto} : blt .len bx [.lst l] S = .ok (.int l.length) S := rfl
theorem isi_Tl (l : List PV) : isi (.tup l) (.ty "list") = some false := rfl
theorem isi_Ll (l : List PV) : isi (.lst l) (.ty "list") = some true := rfl
theorem isi_Lt (l : List PV) : isi (.lst l) (.ty "tuple") = some false := rfl
theorem sameTup {k : Nat} {l : List PV} {S : Sto} (hn : PV.nobs l = true) (hl : l.length ≤ 1000) (he : ∀ x ∈ l, invoke (run t.tf t.cons t.isx 3000 k 18) [x, x] [] = .ok (.bl true) []) : invoke (run t.tf t.cons t.isx 3000 (k + 1) 18) [.tup l, .tup l] S = .ok (.bl true) S := by
  refine inv0 (S1 := []) (by simp only [PV.nobs, PV.nob, hn, Bool.and_self]) rfl ?_
  have L : ev (run t.tf t.cons t.isx 3000 k) t.cons t.isx (.lc false [2, 3] (.cl (.tup (.cons (.nm 2) (.cons (.nm 3) .nil))) (.izip (.var 0) (.var 1)) (.bl true) (.one (.call 18 (.cons (.var 2) (.cons (.var 3) .nil)))))) [some (.tup l), some (.tup l), none, none] [] = .ok (.lst (l.map fun _ => .bl true)) [] := by
    rw [ev_lc_zip (v := .tup l) (l := l) (g := fun _ => .bl true) rfl rfl rfl rfl (show 2 < 4 by simp) (show 3 < 4 by simp) (fun x hx => ?_)]
    · exact mk1k (by rw [List.length_map]; exact hl)
    · have q := he x hx
      simp only [ev, getV, R.bind, withL, wipes, List.set, List.getElem?_cons_zero, List.getElem?_cons_succ, q]
  obtain ⟨a1, a2⟩ := all_true l
  rw [run_fn at18 rfl]
  simp only [b18, ↓L, sx, onR, onO, F.then, ev, getV, R.bind, withL, withO, opt, mth, seqOf, lstOf, List.map_cons, List.map_nil, List.cons_append, List.nil_append, List.replicate, List.getElem?_cons_zero, List.getElem?_cons_succ, truth, cmpop, wipes, List.set, items, boxOf, lcLoop, stays, store, stores, Nat.blt, Nat.ble, bools, orAll, andAll, endR, List.length_cons, List.length_nil, if_true, if_false, Bool.false_eq_true, Bool.not_true, Bool.not_false, Nat.reduceAdd, Nat.reduceSub, ty2, blt_isi, der_tup, isi_T2, isi_Tl, isi_T, der_bl, eqD_bl, oneg, blt_len, der_int, eqD_int, beq_self_eq_true, blt_all, a1, a2]
theorem sameLst {k : Nat} {l : List PV} {S : Sto} (hn : PV.nobs l = true) (hl : l.length ≤ 1000) (he : ∀ x ∈ l, invoke (run t.tf t.cons t.isx 3000 k 18) [x, x] [] = .ok (.bl true) []) : invoke (run t.tf t.cons t.isx 3000 (k + 1) 18) [.lst l, .lst l] S = .ok (.bl true) S := by
  refine inv0 (S1 := []) (by simp only [PV.nobs, PV.nob, hn, Bool.and_self]) rfl ?_
  have L : ev (run t.tf t.cons t.isx 3000 k) t.cons t.isx (.lc false [2, 3] (.cl (.tup (.cons (.nm 2) (.cons (.nm 3) .nil))) (.izip (.var 0) (.var 1)) (.bl true) (.one (.call 18 (.cons (.var 2) (.cons (.var 3) .nil)))))) [some (.lst l), some (.lst l), none, none] [] = .ok (.lst (l.map fun _ => .bl true)) [] := by
    rw [ev_lc_zip (v := .lst l) (l := l) (g := fun _ => .bl true) rfl rfl rfl rfl (show 2 < 4 by simp) (show 3 < 4 by simp) (fun x hx => ?_)]
    · exact mk1k (by rw [List.length_map]; exact hl)
    · have q := he x hx
      simp only [ev, getV, R.bind, withL, wipes, List.set, List.getElem?_cons_zero, List.getElem?_cons_succ, q]
  obtain ⟨a1, a2⟩ := all_true l
  rw [run_fn at18 rfl]
  simp only [b18, ↓L, sx, onR, onO, F.then, ev, getV, R.bind, withL, withO, opt, mth, seqOf, lstOf, List.map_cons, List.map_nil, List.cons_append, List.nil_append, List.replicate, List.getElem?_cons_zero, List.getElem?_cons_succ, truth, cmpop, wipes, List.set, items, boxOf, lcLoop, stays, store, stores, Nat.blt, Nat.ble, bools, orAll, andAll, endR, List.length_cons, List.length_nil, if_true, if_false, Bool.false_eq_true, Bool.not_true, Bool.not_false, Nat.reduceAdd, Nat.reduceSub, ty2, blt_isi, der_lst, isi_L2, isi_Ll, isi_Lt, der_bl, eqD_bl, oneg, blt_lenL, der_int, eqD_int, beq_self_eq_true, blt_all, a1, a2]
structure Gd (l : List PV) : Prop where
  ne : l ≠ []
  len : l.length < 1000
  all : ∀ y ∈ l, ∃ d, d < 12 ∧ y = mv d
theorem Gd.nobs {l : List PV} (h : Gd l) : PV.nobs l = true := shps_nob (n := 1) (shps_mem.mpr fun y hy => by
  obtain ⟨d, hd, rfl⟩ := h.all y hy
  exact mv_shp d hd)
theorem three_of {P : Int → Prop} {ys : List PV} (hl : ys.length = 3) (h : ∀ y ∈ ys, ∃ i, P i ∧ y = .int i) : ∃ a b c, P a ∧ P b ∧ P c ∧ ys = [.int a, .int b, .int c] := by
  match ys, hl with
  | [x, y, z], _ =>
    obtain ⟨a, ha, rfl⟩ := h x (by simp)
    obtain ⟨b, hb, rfl⟩ := h y (by simp)
    obtain ⟨c, hc, rfl⟩ := h z (by simp)
    exact ⟨a, b, c, ha, hb, hc, rfl⟩
theorem asg_nx {call : Nat → List PV → Sto → Rn.R PV} {nb i : Nat} {x : Ex} {ρ ρ1 : Rn.Env} {S S1 : Sto} {v : PV} (h : ev call t.cons t.isx x ρ S = .ok v S1) (g : store S1 (.nm i) v ρ = some ρ1) : sx call t.cons t.isx nb 3000 (.asg (.nm i) x) ρ S = .nx ρ1 S1 := by
  simp only [sx, onR, onO, h, g]
theorem ring_shp : PV.shps 1 ringC = true := by decide
theorem sameTri {k : Nat} {a b c : Int} {S : Sto} : invoke (run t.tf t.cons t.isx 3000 (k + 2) 18) [tri a b c, tri a b c] S = .ok (.bl true) S := sameTup (k := k + 1) rfl (by simp) fun x hx => by
  simp only [List.mem_cons, or_false, List.not_mem_nil] at hx
  rcases hx with z | z | z <;> subst z <;> exact sameI
theorem pose_tri {c : Nat} (h : c < 6) : ∃ x y z, poseC c = tri x y z := by
  have : c = 0 ∨ c = 1 ∨ c = 2 ∨ c = 3 ∨ c = 4 ∨ c = 5 := by omega
  rcases this with z | z | z | z | z | z <;> subst z <;> exact ⟨_, _, _, rfl⟩
def pstL : List PV := [.lst [.int 0, .int 1, .int 2], .lst [.int 2, .int 1, .int 0], .lst [.int 2, .int 0, .int 1], .lst [.int 1, .int 0, .int 2], .lst [.int 1, .int 2, .int 0], .lst [.int 0, .int 2, .int 1]]
def lpose (c : Nat) : PV := pstL.getD c .non
def ltri (a b c : Int) : PV := .lst [.int a, .int b, .int c]
theorem lpose_shp : ∀ c, c < 6 → PV.shp 1 (lpose c) = true := by decide +kernel
structure Cn where
  a0 : Int
  a1 : Int
  a2 : Int
  a3 : Int
  a4 : Int
  a5 : Int
theorem six {c : Nat} (h : c < 6) : c = 0 ∨ c = 1 ∨ c = 2 ∨ c = 3 ∨ c = 4 ∨ c = 5 := by omega
def bn1 (b : Bool) : Nat := if b then 1 else 0
def bitOf (m l : Nat) : Bool := Nat.beq (m / 2 ^ l % 2) 1
def fb (l m : Nat) : Nat := if bitOf m l then m - 2 ^ l else m + 2 ^ l
def packB (v0 v1 v2 v3 v4 v5 : Bool) : Nat := bn1 v0 + 2 * bn1 v1 + 4 * bn1 v2 + 8 * bn1 v3 + 16 * bn1 v4 + 32 * bn1 v5
theorem bit_pack : ∀ v0 v1 v2 v3 v4 v5 : Bool, packB v0 v1 v2 v3 v4 v5 < 64 ∧ bitOf (packB v0 v1 v2 v3 v4 v5) 0 = v0 ∧ bitOf (packB v0 v1 v2 v3 v4 v5) 1 = v1 ∧ bitOf (packB v0 v1 v2 v3 v4 v5) 2 = v2 ∧ bitOf (packB v0 v1 v2 v3 v4 v5) 3 = v3 ∧ bitOf (packB v0 v1 v2 v3 v4 v5) 4 = v4 ∧ bitOf (packB v0 v1 v2 v3 v4 v5) 5 = v5 ∧
    fb 0 (packB v0 v1 v2 v3 v4 v5) = packB (!v0) v1 v2 v3 v4 v5 ∧ fb 1 (packB v0 v1 v2 v3 v4 v5) = packB v0 (!v1) v2 v3 v4 v5 ∧ fb 2 (packB v0 v1 v2 v3 v4 v5) = packB v0 v1 (!v2) v3 v4 v5 ∧ fb 3 (packB v0 v1 v2 v3 v4 v5) = packB v0 v1 v2 (!v3) v4 v5 ∧ fb 4 (packB v0 v1 v2 v3 v4 v5) = packB v0 v1 v2 v3 (!v4) v5 ∧ fb 5 (packB v0 v1 v2 v3 v4 v5) = packB v0 v1 v2 v3 v4 (!v5) := by decide +kernel
def Cn.at (q : Cn) (k : Nat) : Int := match k with
  | 0 => q.a0
  | 1 => q.a1
  | 2 => q.a2
  | 3 => q.a3
  | 4 => q.a4
  | _ => q.a5
def cv (q : Cn) : PV := .tup [.int q.a0, .int q.a1, .int q.a2, .int q.a3, .int q.a4, .int q.a5]
def clv (q : Cn) : PV := .lst [.int q.a0, .int q.a1, .int q.a2, .int q.a3, .int q.a4, .int q.a5]
theorem cv_nob (q : Cn) : (cv q).nob = true := rfl
theorem clv_nob (q : Cn) : (clv q).nob = true := rfl
theorem lcLoop_map {α : Type} {emb : α → PV} {all : List PV} {step : PV → Sto → Rn.R (List PV)} {g : α → List PV} {S : Sto} : ∀ {l : List α}, (∀ x ∈ l, step (emb x) S = .ok (g x) S) → lcLoop none all step (l.map emb) S = .ok (l.flatMap g) S
  | [], _ => rfl
  | x :: xs, h => by
    have ih := lcLoop_map (all := all) (l := xs) fun y hy => h y (List.mem_cons_of_mem _ hy)
    show (match step (emb x) S with
      | .ok r S1 => match lcLoop none all step (xs.map emb) S1 with
        | .ok r2 S2 => Rn.R.ok (r ++ r2) S2
        | _ => Rn.R.no
      | _ => Rn.R.no) = _
    rw [h x List.mem_cons_self]
    show (match lcLoop none all step (xs.map emb) S with
        | .ok r2 S2 => Rn.R.ok (g x ++ r2) S2
        | _ => Rn.R.no) = _
    rw [ih]
    rfl
theorem ev_lc_map {α : Type} {emb : α → PV} {call : Nat → List PV → Sto → Rn.R PV} {bx : Bool} {own : List Nat} {i : Nat} {it cond elt : Ex} {ρ : Rn.Env} {S : Sto} {v : PV} {l : List α} {c : α → Bool} {g : α → PV} (hit : ev call t.cons t.isx it (wipes ρ own) S = .ok v S) (hl : items S v = some (l.map emb)) (hb : boxOf v = none) (hi : i < ρ.length)
    (hc : ∀ x ∈ l, ev call t.cons t.isx cond ((wipes ρ own).set i (some (emb x))) S = .ok (.bl (c x)) S) (he : ∀ x ∈ l, c x = true → ev call t.cons t.isx elt ((wipes ρ own).set i (some (emb x))) S = .ok (g x) S) :
    ev call t.cons t.isx (.lc bx own (.cl (.nm i) it cond (.one elt))) ρ S = mk bx (l.flatMap fun x => if c x then [g x] else []) S := by
  have st : ∀ x, store S (.nm i) x (wipes ρ own) = some ((wipes ρ own).set i (some x)) := fun x => by
    show (if Nat.blt i (wipes ρ own).length then some _ else none) = _
    rw [if_pos]
    rw [wipes_len]
    exact Nat.ble_eq_true_of_le hi
  have L := lcLoop_map (emb := emb) (all := l.map emb) (S := S) (l := l) (g := fun x => if c x then [g x] else []) (step := fun x S2 => withO (store S2 (.nm i) x (wipes ρ own)) fun ρ' => (ev call t.cons t.isx cond ρ' S2).bind fun w S3 => withO (truth S3 w) fun b =>
        if b then (ev call t.cons t.isx (.one elt) ρ' S3).bind fun r S4 => withL r fun vs => .ok vs S4 else .ok [] S3) fun x hx => by
    show withO (store S (.nm i) (emb x) (wipes ρ own)) _ = _
    rw [st]
    show (ev call t.cons t.isx cond _ S).bind _ = _
    rw [hc x hx]
    show (if c x then (ev call t.cons t.isx (.one elt) ((wipes ρ own).set i (some (emb x))) S).bind fun r S4 => withL r fun vs => .ok vs S4 else .ok [] S) = _
    cases hcx : c x with
    | false => rfl
    | true =>
      rw [if_pos rfl, if_pos rfl]
      show (R.bind ((ev call t.cons t.isx elt ((wipes ρ own).set i (some (emb x))) S).bind fun v S1 => .ok (.lst [v]) S1) fun r S4 => withL r fun vs => .ok vs S4) = _
      rw [he x hx hcx]
      rfl
  show (R.bind ((ev call t.cons t.isx it (wipes ρ own) S).bind fun v S1 => withO (items S1 v) fun l => (lcLoop (boxOf v) l _ l S1).bind fun vs S5 => .ok (.lst vs) S5) fun r S1 => withL r fun vs => mk bx vs S1) = _
  rw [hit]
  show (R.bind (withO (items S v) fun l => (lcLoop (boxOf v) l _ l S).bind fun vs S5 => .ok (.lst vs) S5) fun r S1 => withL r fun vs => mk bx vs S1) = _
  rw [hl, hb]
  show (R.bind ((lcLoop none (l.map emb) _ (l.map emb) S).bind fun vs S5 => .ok (.lst vs) S5) fun r S1 => withL r fun vs => mk bx vs S1) = _
  rw [L]
  rfl
theorem fm_t {α β : Type} (g : α → β) (l : List α) : (l.flatMap fun x => if true = true then [g x] else []) = l.map g := by
  induction l with
  | nil => rfl
  | cons x r ih =>
    rw [List.flatMap_cons, ih]
    rfl
theorem ev_lcT {α : Type} {emb : α → PV} {call : Nat → List PV → Sto → Rn.R PV} {bx : Bool} {own : List Nat} {tg : Tg} {it cond elt : Ex} {ρ : Rn.Env} {S : Sto} {v : PV} {l : List α} {c : α → Bool} {g : α → PV} {ρ' : α → Rn.Env} (hit : ev call t.cons t.isx it (wipes ρ own) S = .ok v S) (hl : items S v = some (l.map emb)) (hb : boxOf v = none) (hs : ∀ x ∈ l, store S tg (emb x) (wipes ρ own) = some (ρ' x))
    (hc : ∀ x ∈ l, ev call t.cons t.isx cond (ρ' x) S = .ok (.bl (c x)) S) (he : ∀ x ∈ l, c x = true → ev call t.cons t.isx elt (ρ' x) S = .ok (g x) S) :
    ev call t.cons t.isx (.lc bx own (.cl tg it cond (.one elt))) ρ S = mk bx (l.flatMap fun x => if c x then [g x] else []) S := by
  have L := lcLoop_map (emb := emb) (all := l.map emb) (S := S) (l := l) (g := fun x => if c x then [g x] else []) (step := fun x S2 => withO (store S2 tg x (wipes ρ own)) fun ρ' => (ev call t.cons t.isx cond ρ' S2).bind fun w S3 => withO (truth S3 w) fun b =>
        if b then (ev call t.cons t.isx (.one elt) ρ' S3).bind fun r S4 => withL r fun vs => .ok vs S4 else .ok [] S3) fun x hx => by
    show withO (store S tg (emb x) (wipes ρ own)) _ = _
    rw [hs x hx]
    show (ev call t.cons t.isx cond _ S).bind _ = _
    rw [hc x hx]
    show (if c x then (ev call t.cons t.isx (.one elt) (ρ' x) S).bind fun r S4 => withL r fun vs => .ok vs S4 else .ok [] S) = _
    cases hcx : c x with
    | false => rfl
    | true =>
      rw [if_pos rfl, if_pos rfl]
      show (R.bind ((ev call t.cons t.isx elt (ρ' x) S).bind fun v S1 => .ok (.lst [v]) S1) fun r S4 => withL r fun vs => .ok vs S4) = _
      rw [he x hx hcx]
      rfl
  show (R.bind ((ev call t.cons t.isx it (wipes ρ own) S).bind fun v S1 => withO (items S1 v) fun l => (lcLoop (boxOf v) l _ l S1).bind fun vs S5 => .ok (.lst vs) S5) fun r S1 => withL r fun vs => mk bx vs S1) = _
  rw [hit]
  show (R.bind (withO (items S v) fun l => (lcLoop (boxOf v) l _ l S).bind fun vs S5 => .ok (.lst vs) S5) fun r S1 => withL r fun vs => mk bx vs S1) = _
  rw [hl, hb]
  show (R.bind ((lcLoop none (l.map emb) _ (l.map emb) S).bind fun vs S5 => .ok (.lst vs) S5) fun r S1 => withL r fun vs => mk bx vs S1) = _
  rw [L]
  rfl
theorem forL_cons {all : List PV} {f : PV → Rn.Env → Sto → F} {x : PV} {xs : List PV} {ρ ρ1 : Rn.Env} {S S1 : Sto} (h : f x ρ S = .nx ρ1 S1) : forLoop none all f (x :: xs) ρ S = forLoop none all f xs ρ1 S1 := by
  show (match f x ρ S with
    | .nx ρ1 S1 => forLoop none all f xs ρ1 S1
    | .ct ρ1 S1 => forLoop none all f xs ρ1 S1
    | .bk ρ1 S1 => F.nx ρ1 S1
    | f => f) = _
  rw [h]
theorem ev_tup {call : Nat → List PV → Sto → Rn.R PV} {x : Ex} {ρ : Rn.Env} {S : Sto} {l : List PV} (hl : l.length ≤ 1000) (h : ev call t.cons t.isx x ρ S = .ok (.lst l) S) : ev call t.cons t.isx (.blt .tuple false (.cons x .nil)) ρ S = .ok (.tup l) S := by
  have mt : mkT l S = .ok (.tup l) S := mkT1k hl
  simp only [ev, h, R.bind, withL, blt_tup, mt]
theorem addI (i j : Int) (S : Sto) : addop false (.int i) (.int j) S = .ok (.int (i + j)) S := rfl
theorem m1 (x : PV) (S : Sto) : mkT [x] S = .ok (.tup [x]) S := mkT1k (by simp)
theorem m2 (x y : PV) (S : Sto) : mkT [x, y] S = .ok (.tup [x, y]) S := mkT1k (by simp)
theorem m3 (x y z : PV) (S : Sto) : mkT [x, y, z] S = .ok (.tup [x, y, z]) S := mkT1k (by simp)
theorem k1 (x : PV) (S : Sto) : mk false [x] S = .ok (.lst [x]) S := mk1k (by simp)
theorem k2 (x y : PV) (S : Sto) : mk false [x, y] S = .ok (.lst [x, y]) S := mk1k (by simp)
theorem k3 (x y z : PV) (S : Sto) : mk false [x, y, z] S = .ok (.lst [x, y, z]) S := mk1k (by simp)
def qL (q : Cn) : List PV := [.int q.a0, .int q.a1, .int q.a2, .int q.a3, .int q.a4, .int q.a5]
theorem ix_cv {q : Cn} {k : Nat} {S : Sto} (h : k < 6) : idxV (cv q) (.int (k : Int)) S = .ok (.int (q.at k)) S := by
  rcases six h with e | e | e | e | e | e <;> subst e <;> rfl
theorem fitQ {k : Nat} {q : Cn} {S : Sto} : invoke (run t.tf t.cons t.isx 3000 (k + 4) 7) [cv q] S = .ok (cv q) S := inv0 (S1 := []) rfl rfl (toR (by kernel_rfl))
theorem fitQL {k : Nat} {q : Cn} {S : Sto} : invoke (run t.tf t.cons t.isx 3000 (k + 4) 7) [clv q] S = .ok (cv q) S := inv0 (S1 := []) rfl rfl (toR (by kernel_rfl))
theorem listsQ {k : Nat} {q : Cn} {S : Sto} : invoke (run t.tf t.cons t.isx 3000 (k + 2) 17) [cv q] S = .ok (clv q) S := inv0 (S1 := []) rfl rfl (toR (by kernel_rfl))
theorem pose_nob {c : Nat} (h : c < 6) : (poseC c).nob = true := shp_nob (pose_shp c h)
theorem poses_ {k : Nat} {S : Sto} : invoke (run t.tf t.cons t.isx 3000 (k + 1) 19) [] S = .ok (.lst ringC) S := inv0 (S1 := []) rfl rfl (toR (by kernel_rfl))
theorem ix_ring {c : Nat} (S : Sto) (h : c < 6) : mth .index (.lst ringC) [poseC c] S = .ok (.int (c : Int)) S := by
  rcases six h with e | e | e | e | e | e <;> subst e <;> rfl
theorem tfsh (k : Nat) : ((List.range 6).map fun c => okv (runF t.tf t.cons t.isx 3000 (k + 4) 4 [poseC c] [])) = (List.range 6).map fun c => some (poseC c) := by kernel_rfl
theorem tfshL (k : Nat) : ((List.range 6).map fun c => okv (runF t.tf t.cons t.isx 3000 (k + 4) 4 [lpose c] [])) = (List.range 6).map fun c => some (poseC c) := by kernel_rfl
theorem lpose_nob {c : Nat} (h : c < 6) : (lpose c).nob = true := shp_nob (lpose_shp c h)
theorem fitP {k c : Nat} {S : Sto} (h : c < 6) : invoke (run t.tf t.cons t.isx 3000 (k + 4) 4) [poseC c] S = .ok (poseC c) S := by
  obtain ⟨S1, r⟩ := okv_ok (List.map_inj_left.mp (tfsh k) c (List.mem_range.mpr h))
  exact inv0 (by simp only [PV.nobs, pose_nob h, Bool.and_self]) (pose_nob h) (toR r)
theorem fitPL {k c : Nat} {S : Sto} (h : c < 6) : invoke (run t.tf t.cons t.isx 3000 (k + 4) 4) [lpose c] S = .ok (poseC c) S := by
  obtain ⟨S1, r⟩ := okv_ok (List.map_inj_left.mp (tfshL k) c (List.mem_range.mpr h))
  exact inv0 (by simp only [PV.nobs, lpose_nob h, Bool.and_self]) (pose_nob h) (toR r)
theorem tlsp (k : Nat) : ((List.range 6).map fun c => okv (runF t.tf t.cons t.isx 3000 (k + 2) 17 [poseC c] [])) = (List.range 6).map fun c => some (lpose c) := by kernel_rfl
theorem listsP {k c : Nat} {S : Sto} (h : c < 6) : invoke (run t.tf t.cons t.isx 3000 (k + 2) 17) [poseC c] S = .ok (lpose c) S := by
  obtain ⟨S1, r⟩ := okv_ok (List.map_inj_left.mp (tlsp k) c (List.mem_range.mpr h))
  exact inv0 (by simp only [PV.nobs, pose_nob h, Bool.and_self]) (lpose_nob h) (toR r)
def hit (i l : Nat) : Nat := if (PV.int ((l : Nat) : Int)).beq (.int (i : Int)) then 1 else 0
theorem six_of {ys : List PV} (hl : ys.length = 6) (h : ∀ y ∈ ys, ∃ i, y = .int i) : ∃ q : Cn, ys = qL q := by
  match ys, hl with
  | [a, b, c, d, e, f], _ =>
    obtain ⟨a, rfl⟩ := h a (by simp)
    obtain ⟨b, rfl⟩ := h b (by simp)
    obtain ⟨c, rfl⟩ := h c (by simp)
    obtain ⟨d, rfl⟩ := h d (by simp)
    obtain ⟨e, rfl⟩ := h e (by simp)
    obtain ⟨f, rfl⟩ := h f (by simp)
    exact ⟨⟨a, b, c, d, e, f⟩, rfl⟩
theorem qL_int {q : Cn} {x : PV} (h : x ∈ qL q) : ∃ i, x = .int i := by
  simp only [qL, List.mem_cons, or_false, List.not_mem_nil] at h
  rcases h with z | z | z | z | z | z <;> exact ⟨_, z⟩
theorem rng6 : rangeOf [.int 6] = some (range1 0 6) := rangeN 6 (by decide)
theorem lcSt {i : Nat} {ρ : Rn.Env} {own : List Nat} (hi : i < ρ.length) (x : PV) (S : Sto) : store S (.nm i) x (wipes ρ own) = some ((wipes ρ own).set i (some x)) := by
  have g : Nat.blt i (wipes ρ own).length = true := by
    rw [wipes_len]
    exact Nat.ble_eq_true_of_le hi
  show (if Nat.blt i (wipes ρ own).length = true then some ((wipes ρ own).set i (some x)) else none) = _
  rw [g]
  rfl
theorem ev_drV {call : Nat → List PV → Sto → Rn.R PV} {P : PV → Prop} {c i : Nat} {t1 B : Int} {own : List Nat} {it elt : Ex} {ρ : Rn.Env} {l : List PV} {v : PV} {t0 t2 n : Int} (hit : ∀ S, ev call t.cons t.isx it (wipes ρ own) S = .ok v S) (hv : ∀ S, items S v = some l) (hb : boxOf v = none) (hi : i < ρ.length)
    (he : ∀ x ∈ l, ∀ {t0 t2 n : Int}, Dr t0 t2 n → n < B → ∃ y u0 u2, ev call t.cons t.isx elt ((wipes ρ own).set i (some x)) (Tn t0 t1 t2) = .ok y (Tn u0 t1 u2) ∧ Dr u0 u2 (n + c) ∧ P y) (hD : Dr t0 t2 n) (hn : n + (c * l.length : Nat) < B) :
    ∃ ys u0 u2, ev call t.cons t.isx (.lc false own (.cl (.nm i) it (.bl true) (.one elt))) ρ (Tn t0 t1 t2) = mk false ys (Tn u0 t1 u2) ∧ ys.length = l.length ∧ (∀ y ∈ ys, P y) ∧ Dr u0 u2 (n + (c * l.length : Nat)) := by
  have L := lcLoop_dr (P := P) (c := c) (t1 := t1) (B := B) (all := l) (l := l) (step := fun x S2 => withO (store S2 (.nm i) x (wipes ρ own)) fun ρ2 => (ev call t.cons t.isx (.bl true) ρ2 S2).bind fun w S3 => withO (truth S3 w) fun b =>
      if b then (ev call t.cons t.isx (.one elt) ρ2 S3).bind fun r S4 => withL r fun vs => .ok vs S4 else .ok [] S3) (fun x hx a0 a2 m hA hm => by
    obtain ⟨y, u0, u2, e, D, p⟩ := he x hx hA hm
    have q := lcSt (own := own) hi x (Tn a0 t1 a2)
    refine ⟨y, u0, u2, ?_, D, p⟩
    simp only [q, withO, ev, R.bind, truth, if_true, e, withL]) hD hn
  obtain ⟨ys, u0, u2, e, z1, z2, D⟩ := L
  refine ⟨ys, u0, u2, ?_, z1, z2, D⟩
  have h1 := hit (Tn t0 t1 t2)
  have h2 := hv (Tn t0 t1 t2)
  simp only [ev] at e
  simp only [ev, h1, R.bind, h2, hb, withO, withL]
  simp only [R.bind, withO, withL] at e
  rw [e]
theorem cv_same (q : Cn) : eqD (cv q) (cv q) = some true := by
  have b : (cv q).beq (cv q) = true := by
    simp only [cv, PV.beq, PV.beqs, Bool.and_true]
    simp only [beq_self_eq_true, Bool.and_true]
  show (if true && true then some ((cv q).beq (cv q)) else none) = _
  rw [b]
  rfl
end Lw
set_option maxHeartbeats 0
namespace Lw
open Rn PySem
/-! the free runs, as the package tells them and as the law does -/
def iv (l : List Nat) : List PV := l.map fun x : Nat => PV.int (x : Int)
def runV (r : List Nat) : PV := .tup (iv r)
def runN (k n : Nat) : List Nat := (List.range n).map fun o => (k + o) % 6
def insN (k n : Nat) : List Nat := (List.range (n - 1)).map fun o => (k + o + 1) % 6
def frs (m : Nat) : List Nat → List (List Nat) → List Nat → List (List Nat) × List Nat
  | [], R, r => (R, r)
  | l :: ls, R, r => if bitOf m l then frs m ls R (r ++ [l]) else if r.isEmpty then frs m ls R [] else frs m ls (R ++ [r]) []
def frE (m : Nat) (ls : List Nat) : List (List Nat) := if (frs m ls [] []).2.isEmpty then (frs m ls [] []).1 else (frs m ls [] []).1 ++ [(frs m ls [] []).2]
def lfN (a b : Nat) : List Nat := (List.range (if Nat.blt 0 ((b + 6 - a) % 6) then (b + 6 - a) % 6 else 6)).map fun s => (a + s) % 6
def strR (m a b : Nat) : List (List Nat) := if Nat.beq a b then frE m (lfN a b) else frE m (lfN a b) ++ frE m (lfN b a)
def has (l : List Nat) (x : Nat) : Bool := l.any fun y => Nat.beq y x
/-- all of a run free, no corner inside -/
def okG (m a b k n : Nat) : Bool := (runN k n).all (bitOf m) && !(has (insN k n) a || has (insN k n) b)
def okR (m a b k n : Nat) : Bool := okG m a b k n && (Nat.blt n 6 || (Nat.beq k a && Nat.beq a b))
def n16 : List Nat := [1, 2, 3, 4, 5, 6]
def fnd (m a b : Nat) : List (Nat × Nat) := (List.range 6).flatMap fun k => (n16.filter fun n => okR m a b k n).map fun n => (k, n)
def same : List Nat → List Nat → Bool
  | [], [] => true
  | x :: xs, y :: ys => Nat.beq x y && same xs ys
  | _, _ => false
def liesN (p r : List Nat) : Bool := (List.range r.length).any fun k => same ((r.drop k).take p.length) p
def emN (p : Nat × Nat) : List Nat := runN p.1 p.2
def inAny (l : List (Nat × Nat)) (p : Nat × Nat) : Bool := l.any fun q => Nat.blt p.2 q.2 && liesN (emN p) (emN q)
def lawF (m a b : Nat) : List (Nat × Nat) := (fnd m a b).filter fun p => !(inAny (fnd m a b) p)
def ltL : List Nat → List Nat → Bool
  | [], [] => false
  | [], _ => true
  | _, [] => false
  | x :: xs, y :: ys => Nat.blt x y || (Nat.beq x y && ltL xs ys)
def insL (x : List Nat) : List (List Nat) → List (List Nat)
  | [] => [x]
  | y :: ys => if ltL x y then x :: y :: ys else y :: insL x ys
def srt : List (List Nat) → List (List Nat)
  | [] => []
  | x :: xs => insL x (srt xs)
def strM (m a b : Nat) : List (List Nat) := srt (strR m a b)
def intsAre : List PV → List Nat → Bool
  | [], [] => true
  | .int i :: xs, n :: ns => (i == (n : Int)) && intsAre xs ns
  | _, _ => false
def runsAre : List PV → List (List Nat) → Bool
  | [], [] => true
  | .tup xs :: vs, r :: rs => intsAre xs r && runsAre vs rs
  | _, _ => false
theorem ints_are : ∀ {xs : List PV} {ns : List Nat}, intsAre xs ns = true → xs = iv ns
  | [], [], _ => rfl
  | [], n :: ns, h => nomatch h
  | x :: xs, [], h => by cases x <;> cases h
  | x :: xs, n :: ns, h => by
    cases x with
    | int i =>
      have h : ((i == (n : Int)) && intsAre xs ns) = true := h
      obtain ⟨h1, h2⟩ := Bool.and_eq_true_iff.mp h
      rw [eq_of_beq h1, ints_are h2]
      rfl
    | _ => cases h
theorem runs_are : ∀ {vs : List PV} {rs : List (List Nat)}, runsAre vs rs = true → vs = rs.map runV
  | [], [], _ => rfl
  | [], r :: rs, h => nomatch h
  | v :: vs, [], h => by cases v <;> cases h
  | v :: vs, r :: rs, h => by
    cases v with
    | tup xs =>
      have h : (intsAre xs r && runsAre vs rs) = true := h
      obtain ⟨h1, h2⟩ := Bool.and_eq_true_iff.mp h
      rw [ints_are h1, runs_are h2]
      rfl
    | _ => cases h
def okSort (l : List (List Nat)) (e : List (List Nat)) : Bool := match blt .sorted false [.lst (l.map runV)] [] with
  | .ok (.lst r) [] => runsAre r e
  | _ => false
theorem mk_any {r : List PV} {v : PV} (S : Sto) (h : mk false r [] = .ok v []) : mk false r S = .ok v S := by
  unfold mk at h ⊢
  cases e : Nat.ble r.length lim with
  | true =>
    rw [e, if_pos rfl, if_neg (fun h => nomatch h)] at h
    cases h
    rfl
  | false =>
    rw [e, if_neg (fun h => nomatch h)] at h
    cases h
theorem sort_any {l r : List PV} (S : Sto) (h : blt .sorted false [.lst l] [] = .ok (.lst r) []) : blt .sorted false [.lst l] S = .ok (.lst r) S := by
  have e : ∀ S, blt .sorted false [.lst l] S = if isIntL [] (.lst l) then (match intsL l with
    | some ns => if Nat.blt ns.length 64 then mk false ((sortI ns).map .int) S else .no
    | none => .no) else (if PV.shps deep l && (l.all neTup || l.all noTup) then match sortD l with
    | some r => if sorted2 r then mk false r S else .no
    | none => .no else .no) := fun S => rfl
  rw [e] at h ⊢
  cases h1 : isIntL [] (.lst l) with
  | true =>
    rw [h1, if_pos rfl] at h
    rw [if_pos rfl]
    cases h2 : intsL l with
    | none =>
      rw [h2] at h
      cases h
    | some ns =>
      rw [h2] at h
      cases h3 : Nat.blt ns.length 64 with
      | true =>
        have h : (if Nat.blt ns.length 64 then mk false ((sortI ns).map .int) [] else .no) = .ok (.lst r) [] := h
        rw [h3, if_pos rfl] at h
        show (if Nat.blt ns.length 64 then mk false ((sortI ns).map .int) S else .no) = _
        rw [h3, if_pos rfl]
        exact mk_any S h
      | false =>
        have h : (if Nat.blt ns.length 64 then mk false ((sortI ns).map .int) [] else .no) = .ok (.lst r) [] := h
        rw [h3, if_neg (fun h => nomatch h)] at h
        cases h
  | false =>
    rw [h1, if_neg (fun h => nomatch h)] at h
    rw [if_neg (fun h => nomatch h)]
    cases h2 : (PV.shps deep l && (l.all neTup || l.all noTup)) with
    | false =>
      rw [h2, if_neg (fun h => nomatch h)] at h
      cases h
    | true =>
      rw [h2, if_pos rfl] at h
      rw [if_pos rfl]
      cases h3 : sortD l with
      | none =>
        rw [h3] at h
        cases h
      | some q =>
        rw [h3] at h
        have h : (if sorted2 q then mk false q [] else .no) = .ok (.lst r) [] := h
        show (if sorted2 q then mk false q S else .no) = _
        cases h4 : sorted2 q with
        | true =>
          rw [h4, if_pos rfl] at h
          rw [if_pos rfl]
          exact mk_any S h
        | false =>
          rw [h4, if_neg (fun h => nomatch h)] at h
          cases h
theorem sorts {l e : List (List Nat)} (h : okSort l e = true) (S : Sto) : blt .sorted false [.lst (l.map runV)] S = .ok (.lst (e.map runV)) S := by
  unfold okSort at h
  split at h
  · rename_i r hr
    rw [runs_are h] at hr
    exact sort_any S hr
  · cases h
/-! the law's own gap -/
def lstep (m a b k n best : Nat) : Nat := if okG m a b k n then (if Nat.blt n 6 || Nat.beq k a then (if Nat.blt best n then n else best) else best) else best
def lrow (m a b k best : Nat) : Nat := n16.foldl (fun best n => lstep m a b k n best) best
def lgap (m a b : Nat) : Nat := (List.range 6).foldl (fun best k => lrow m a b k best) 0
def lenI (l : List (List Nat)) : List Int := l.map fun r => (r.length : Int)
def gapZ (l : List (List Nat)) : Int := match imax (lenI l) with
  | some i => i
  | none => 0
/-- all that is asked of the strips of one pair of shapes, at one pattern -/
def all1 (m a b : Nat) : Bool := okSort (strR m a b) (strM m a b) && okSort ((lawF m a b).map emN) (strM m a b) && (gapZ (strM m a b) == (lgap m a b : Int)) && (imax (lenI (strM m a b) ++ [0]) == some (lgap m a b : Int)) &&
  Nat.ble (frs m (lfN a b) [] []).1.length 6 && Nat.ble (strM m a b).length 20 && (strM m a b).all fun r => Nat.ble r.length 6
theorem zall00 : ((List.range 192).all fun j => all1 (j % 64) 0 (j / 64 + 0)) = true := by decide +kernel
theorem zall01 : ((List.range 192).all fun j => all1 (j % 64) 0 (j / 64 + 3)) = true := by decide +kernel
theorem zall10 : ((List.range 192).all fun j => all1 (j % 64) 1 (j / 64 + 0)) = true := by decide +kernel
theorem zall11 : ((List.range 192).all fun j => all1 (j % 64) 1 (j / 64 + 3)) = true := by decide +kernel
theorem zall20 : ((List.range 192).all fun j => all1 (j % 64) 2 (j / 64 + 0)) = true := by decide +kernel
theorem zall21 : ((List.range 192).all fun j => all1 (j % 64) 2 (j / 64 + 3)) = true := by decide +kernel
theorem zall30 : ((List.range 192).all fun j => all1 (j % 64) 3 (j / 64 + 0)) = true := by decide +kernel
theorem zall31 : ((List.range 192).all fun j => all1 (j % 64) 3 (j / 64 + 3)) = true := by decide +kernel
theorem zall40 : ((List.range 192).all fun j => all1 (j % 64) 4 (j / 64 + 0)) = true := by decide +kernel
theorem zall41 : ((List.range 192).all fun j => all1 (j % 64) 4 (j / 64 + 3)) = true := by decide +kernel
theorem zall50 : ((List.range 192).all fun j => all1 (j % 64) 5 (j / 64 + 0)) = true := by decide +kernel
theorem zall51 : ((List.range 192).all fun j => all1 (j % 64) 5 (j / 64 + 3)) = true := by decide +kernel
theorem all_ok {m a b : Nat} (hm : m < 64) (ha : a < 6) (hb : b < 6) : all1 m a b = true := by
  have lo : ∀ c, ((List.range 192).all fun j => all1 (j % 64) c (j / 64 + 0)) = true → b < 3 → all1 m c b = true := fun c h hb => by
    have q := List.all_eq_true.mp h (b * 64 + m) (List.mem_range.mpr (by omega))
    rw [show (b * 64 + m) % 64 = m by omega, show (b * 64 + m) / 64 + 0 = b by omega] at q
    exact q
  have hi : ∀ c, ((List.range 192).all fun j => all1 (j % 64) c (j / 64 + 3)) = true → 3 ≤ b → all1 m c b = true := fun c h hb => by
    have q := List.all_eq_true.mp h ((b - 3) * 64 + m) (List.mem_range.mpr (by omega))
    rw [show ((b - 3) * 64 + m) % 64 = m by omega, show ((b - 3) * 64 + m) / 64 + 3 = b by omega] at q
    exact q
  rcases Nat.lt_or_ge b 3 with z | z
  · rcases six ha with e | e | e | e | e | e <;> subst e
    · exact lo _ zall00 z
    · exact lo _ zall10 z
    · exact lo _ zall20 z
    · exact lo _ zall30 z
    · exact lo _ zall40 z
    · exact lo _ zall50 z
  · rcases six ha with e | e | e | e | e | e <;> subst e
    · exact hi _ zall01 z
    · exact hi _ zall11 z
    · exact hi _ zall21 z
    · exact hi _ zall31 z
    · exact hi _ zall41 z
    · exact hi _ zall51 z
structure All (m a b : Nat) : Prop where
  s1 : okSort (strR m a b) (strM m a b) = true
  s2 : okSort ((lawF m a b).map emN) (strM m a b) = true
  g1 : gapZ (strM m a b) = (lgap m a b : Int)
  g2 : imax (lenI (strM m a b) ++ [0]) = some (lgap m a b : Int)
  l1 : (frs m (lfN a b) [] []).1.length ≤ 6
  l2 : (strM m a b).length ≤ 20
  l3 : ∀ r ∈ strM m a b, r.length ≤ 6
theorem all_of {m a b : Nat} (hm : m < 64) (ha : a < 6) (hb : b < 6) : All m a b := by
  have h := all_ok hm ha hb
  simp only [all1, Bool.and_eq_true] at h
  obtain ⟨⟨⟨⟨⟨⟨sr, sl⟩, gp⟩, gm⟩, fl⟩, ml⟩, rl⟩ := h
  exact ⟨sr, sl, eq_of_beq gp, eq_of_beq gm, Nat.le_of_ble_eq_true fl, Nat.le_of_ble_eq_true ml, fun r hr => Nat.le_of_ble_eq_true (List.all_eq_true.mp rl r hr)⟩
end Lw
set_option maxHeartbeats 0
namespace Lw
open Rn PySem
theorem at8 : t.tf 8 = some ⟨1, 3, b8⟩ := rfl
theorem at10 : t.tf 10 = some ⟨2, 5, b10⟩ := rfl
theorem at11 : t.tf 11 = some ⟨3, 7, b11⟩ := rfl
theorem at12 : t.tf 12 = some ⟨3, 4, b12⟩ := rfl
def zm (q : Cn) : Nat := packB (q.a0 == 0) (q.a1 == 0) (q.a2 == 0) (q.a3 == 0) (q.a4 == 0) (q.a5 == 0)
theorem zm_lt (q : Cn) : zm q < 64 := (bit_pack _ _ _ _ _ _).1
theorem zm_bit (q : Cn) {k : Nat} (h : k < 6) : (q.at k == 0) = bitOf (zm q) k := by
  obtain ⟨_, b0, b1, b2, b3, b4, b5, _⟩ := bit_pack (q.a0 == 0) (q.a1 == 0) (q.a2 == 0) (q.a3 == 0) (q.a4 == 0) (q.a5 == 0)
  rcases six h with e | e | e | e | e | e <;> subst e
  · exact b0.symm
  · exact b1.symm
  · exact b2.symm
  · exact b3.symm
  · exact b4.symm
  · exact b5.symm
def frM (m : Nat) : List PV := (List.range 6).flatMap fun k => if bitOf m k then [PV.int (k : Int)] else []
theorem frM_len : ∀ m, m < 64 → (frM m).length ≤ 1000 ∧ PV.nobs (frM m) = true := by decide +kernel
theorem iv_shp (l : List Nat) : PV.shps 0 (iv l) = true := shps_mem.mpr fun x hx => by
  obtain ⟨p, _, rfl⟩ := List.mem_map.mp hx
  rfl
theorem iv_len (l : List Nat) : (iv l).length = l.length := List.length_map ..
theorem runs_shp (l : List (List Nat)) : PV.shps 1 (l.map runV) = true := shps_mem.mpr fun x hx => by
  obtain ⟨p, _, rfl⟩ := List.mem_map.mp hx
  exact iv_shp p
theorem freeL_ {k : Nat} {q : Cn} {w : PV} {S : Sto} (hw : w.nob = true) (hf : ∀ S, invoke (run t.tf t.cons t.isx 3000 (k + 4) 7) [w] S = .ok (cv q) S) : invoke (run t.tf t.cons t.isx 3000 (k + 5) 8) [w] S = .ok (.tup (frM (zm q))) S := by
  obtain ⟨hl, hn⟩ := frM_len (zm q) (zm_lt q)
  refine inv0 (S1 := []) (by simp only [PV.nobs, hw, Bool.and_self]) (by simpa only [PV.nob] using hn) ?_
  show run t.tf t.cons t.isx 3000 (k + 4 + 1) 8 [w] [] = _
  have L : ev (run t.tf t.cons t.isx 3000 (k + 4)) t.cons t.isx (.lc false [2] (.cl (.nm 2) (.gcn 1) (.cmp .eq (.idx (.var 1) (.var 2)) (.int 0)) (.one (.var 2)))) [some w, some (cv q), none] [] = .ok (.lst (frM (zm q))) [] := by
    rw [ev_lc_map (emb := fun (k : Nat) => PV.int (k : Int)) (v := .tup [.int 0, .int 1, .int 2, .int 3, .int 4, .int 5]) (l := List.range 6) (c := fun k => bitOf (zm q) k) (g := fun k => .int (k : Int)) rfl rfl rfl (show 2 < 3 by simp) (fun x hx => by
      have hx := List.mem_range.mp hx
      have i1 := fun S => ix_cv (q := q) (S := S) hx
      simp only [ev, getV, R.bind, withL, withO, wipes, List.set, List.getElem?_cons_zero, List.getElem?_cons_succ, i1, cmpop, der_int, eqD_int, zm_bit q hx]) (fun x hx _ => rfl)]
    exact mk1k hl
  have mt : ∀ S, mkT (frM (zm q)) S = .ok (.tup (frM (zm q))) S := fun S => mkT1k hl
  have st1 : ∀ S x, store S (.nm 1) x [some w, none, none] = some [some w, some x, none] := fun _ _ => rfl
  rw [run_fn at8 rfl]
  simp only [b8, ↓L, sx, onR, onO, F.then, ev, getV, R.bind, withL, withO, List.map_cons, List.map_nil, List.cons_append, List.nil_append, List.replicate, List.getElem?_cons_zero, List.getElem?_cons_succ, List.length_cons, List.length_nil, Nat.reduceAdd, Nat.reduceSub, endR, hf, st1, blt_tup, mt]
theorem tpos (k : Nat) : ((List.range 6).map fun c => okv (runF t.tf t.cons t.isx 3000 (k + 5) 5 [poseC c] [])) = (List.range 6).map fun c => some (.int ((c : Nat) : Int)) := by kernel_rfl
theorem tposL (k : Nat) : ((List.range 6).map fun c => okv (runF t.tf t.cons t.isx 3000 (k + 5) 5 [lpose c] [])) = (List.range 6).map fun c => some (.int ((c : Nat) : Int)) := by kernel_rfl
theorem posP {k c : Nat} {S : Sto} (h : c < 6) : invoke (run t.tf t.cons t.isx 3000 (k + 5) 5) [poseC c] S = .ok (.int (c : Int)) S := by
  obtain ⟨S1, r⟩ := okv_ok (List.map_inj_left.mp (tpos k) c (List.mem_range.mpr h))
  exact inv0 (by simp only [PV.nobs, pose_nob h, Bool.and_self]) rfl (toR r)
theorem posPL {k c : Nat} {S : Sto} (h : c < 6) : invoke (run t.tf t.cons t.isx 3000 (k + 5) 5) [lpose c] S = .ok (.int (c : Int)) S := by
  obtain ⟨S1, r⟩ := okv_ok (List.map_inj_left.mp (tposL k) c (List.mem_range.mpr h))
  exact inv0 (by simp only [PV.nobs, lpose_nob h, Bool.and_self]) rfl (toR r)
theorem tlf (k : Nat) : ((List.range 36).map fun j => okv (runF t.tf t.cons t.isx 3000 (k + 1) 9 [.int ((j / 6 : Nat) : Int), .int ((j % 6 : Nat) : Int)] [])) = (List.range 36).map fun j => some (.lst (iv (lfN (j / 6) (j % 6)))) := by kernel_rfl
theorem lfS {k a b : Nat} {S : Sto} (ha : a < 6) (hb : b < 6) : invoke (run t.tf t.cons t.isx 3000 (k + 1) 9) [.int (a : Int), .int (b : Int)] S = .ok (.lst (iv (lfN a b))) S := by
  have q := List.map_inj_left.mp (tlf k) (a * 6 + b) (List.mem_range.mpr (by omega))
  rw [show (a * 6 + b) / 6 = a by omega, show (a * 6 + b) % 6 = b by omega] at q
  obtain ⟨S1, r⟩ := okv_ok q
  exact inv0 rfl (shps_nob (iv_shp _)) (toR r)
theorem lfN_lt : ∀ a, a < 6 → ∀ b, b < 6 → (lfN a b).all (fun l => Nat.blt l 6) = true ∧ (lfN a b).length ≤ 6 := by decide +kernel
theorem lfN_mem {a b : Nat} (ha : a < 6) (hb : b < 6) : ∀ l ∈ lfN a b, l < 6 := fun l hl => Nat.le_of_ble_eq_true (List.all_eq_true.mp (lfN_lt a ha b hb).1 l hl)
theorem frs_len (m : Nat) : ∀ (ls : List Nat) (Q : List (List Nat)) (r : List Nat), (frs m ls Q r).1.length + (frs m ls Q r).2.length ≤ Q.length + r.length + ls.length
  | [], Q, r => Nat.le_refl _
  | l :: ls, Q, r => by
    have e : frs m (l :: ls) Q r = if bitOf m l then frs m ls Q (r ++ [l]) else if r.isEmpty then frs m ls Q [] else frs m ls (Q ++ [r]) [] := rfl
    rw [e]
    cases bitOf m l with
    | true =>
      have q := frs_len m ls Q (r ++ [l])
      rw [if_pos rfl]
      simp only [List.length_append, List.length_cons, List.length_nil] at q ⊢
      omega
    | false =>
      rw [if_neg (fun h => nomatch h)]
      cases r with
      | nil =>
        have q := frs_len m ls Q []
        rw [if_pos (show ([] : List Nat).isEmpty = true from rfl)]
        simp only [List.length_cons, List.length_nil] at q ⊢
        omega
      | cons x r =>
        have q := frs_len m ls (Q ++ [x :: r]) []
        rw [if_neg (fun h => nomatch h)]
        simp only [List.length_append, List.length_cons, List.length_nil] at q ⊢
        omega
def frBody : Sm := (.seq (.ife (.cmp .eq (.idx (.var 0) (.var 4)) (.int 0)) (.seq (.app (.var 3) (.var 4)) .nil) (.seq (.ife (.var 3) (.seq (.app (.var 2) (.blt .tuple false (.cons (.var 3) .nil))) (.seq (.asg (.nm 3) (.lst true .nil)) .nil)) .nil) .nil)) .nil)
theorem iv_snoc (r : List Nat) (l : Nat) : iv r ++ [PV.int (l : Int)] = iv (r ++ [l]) := by
  unfold iv
  rw [List.map_append]
  rfl
theorem rv_snoc (Q : List (List Nat)) (r : List Nat) : Q.map runV ++ [runV r] = (Q ++ [r]).map runV := by
  rw [List.map_append]
  rfl
theorem fr_step {call : Nat → List PV → Sto → Rn.R PV} {q : Cn} {Q : List (List Nat)} {r : List Nat} {X : Sto} {i l : Nat} {p1 : Option PV} (hl : l < 6) (h : X[i]? = some (some (iv r))) (hn : Q.length + r.length ≤ 500) :
    ∃ X' i', X'[i']? = some (some (iv (frs (zm q) [l] Q r).2)) ∧ sx call t.cons t.isx 0 3000 frBody [some (cv q), p1, some (.box 0), some (.box (i + 1)), some (.int (l : Int))] (some (Q.map runV) :: X) = .nx [some (cv q), p1, some (.box 0), some (.box (i' + 1)), some (.int (l : Int))] (some ((frs (zm q) [l] Q r).1.map runV) :: X') := by
  have ix := fun S => ix_cv (q := q) (S := S) hl
  have zb := zm_bit q hl
  have glj : getB (some (Q.map runV) :: X) (i + 1) = some (iv r) := by
    show (match X[i]? with
      | some (some l) => some l
      | _ => none) = _
    rw [h]
  have gl0 : ∀ A : List PV, getB (some A :: X) 0 = some A := fun _ => rfl
  have ie : (iv r).isEmpty = r.isEmpty := by cases r <;> rfl
  have hi : i < X.length := (List.getElem?_eq_some_iff.mp h).1
  have ln1 : Nat.blt (iv r).length lim = true := Nat.ble_eq_true_of_le (by
    rw [iv_len]
    show r.length + 1 ≤ 1000000
    omega)
  have ln2 : Nat.blt (Q.map runV).length lim = true := Nat.ble_eq_true_of_le (by
    rw [List.length_map]
    show Q.length + 1 ≤ 1000000
    omega)
  have s1 : ∀ (A : Option (List PV)) v, (A :: X).set (i + 1) v = A :: X.set i v := fun _ _ => rfl
  have s0 : ∀ (A : Option (List PV)) v, (A :: X).set 0 v = v :: X := fun _ _ => rfl
  cases e : bitOf (zm q) l with
  | true =>
    rw [e] at zb
    refine ⟨X.set i (some (iv (r ++ [l]))), i, ?_, ?_⟩
    · show _ = some (some (iv (if bitOf (zm q) l then (Q, r ++ [l]) else if r.isEmpty then (Q, []) else (Q ++ [r], [])).2))
      rw [e, if_pos rfl]
      exact List.getElem?_set_self hi
    · show _ = F.nx _ (some (((if bitOf (zm q) l then (Q, r ++ [l]) else if r.isEmpty then (Q, []) else (Q ++ [r], [])) : List (List Nat) × List Nat).1.map runV) :: _)
      rw [e, if_pos rfl]
      simp only [frBody, sx, onR, onO, F.then, ev, getV, R.bind, withL, withO, List.map_cons, List.map_nil, List.cons_append, List.nil_append, List.replicate, List.getElem?_cons_zero, List.getElem?_cons_succ, List.length_cons, List.length_nil, Nat.reduceAdd, Nat.reduceSub, endR, ix, cmpop, der_int, eqD_int, zb, truth, if_true, glj, ln1, s1, iv_snoc]
  | false =>
    rw [e] at zb
    have ef : frs (zm q) [l] Q r = if r.isEmpty then (Q, []) else (Q ++ [r], []) := by
      show (if bitOf (zm q) l then (Q, r ++ [l]) else if r.isEmpty then (Q, []) else (Q ++ [r], [])) = _
      rw [e, if_neg (fun h => nomatch h)]
    rw [ef]
    have tr : truth (some (Q.map runV) :: X) (.box (i + 1)) = some (!r.isEmpty) := by
      show (match getB (some (Q.map runV) :: X) (i + 1) with
        | some l => some (!l.isEmpty)
        | none => none) = _
      rw [glj]
      cases r <;> rfl
    cases er : r.isEmpty with
    | true =>
      rw [er] at tr
      have e0 : r = [] := List.isEmpty_iff.mp er
      refine ⟨X, i, ?_, ?_⟩
      · rw [if_pos rfl, h, e0]
      · rw [if_pos rfl]
        simp only [frBody, sx, onR, onO, F.then, ev, getV, R.bind, withL, withO, List.map_cons, List.map_nil, List.cons_append, List.nil_append, List.replicate, List.getElem?_cons_zero, List.getElem?_cons_succ, List.length_cons, List.length_nil, Nat.reduceAdd, Nat.reduceSub, endR, ix, cmpop, der_int, eqD_int, zb, truth, if_false, Bool.false_eq_true, glj, ie, er, Bool.not_true]
    | false =>
      rw [er] at tr
      have bt : blt .tuple false [.box (i + 1)] (some (Q.map runV) :: X) = .ok (runV r) (some (Q.map runV) :: X) := by
        show (withO (getB (some (Q.map runV) :: X) (i + 1)) fun l => mkT l (some (Q.map runV) :: X)) = _
        rw [glj]
        exact mkT1k (by
          rw [iv_len]
          omega)
      have mb : ∀ A : Option (List PV), mk true [] (A :: X) = .ok (.box (X.length + 1)) (A :: (X ++ [some []])) := fun _ => rfl
      have st : ∀ S v, store S (.nm 3) v [some (cv q), p1, some (.box 0), some (.box (i + 1)), some (.int (l : Int))] = some [some (cv q), p1, some (.box 0), some v, some (.int (l : Int))] := fun _ _ => rfl
      refine ⟨X ++ [some []], X.length, ?_, ?_⟩
      · rw [if_neg (fun h => nomatch h), List.getElem?_append_right (Nat.le_refl _), Nat.sub_self]
        rfl
      · rw [if_neg (fun h => nomatch h)]
        simp only [frBody, sx, onR, onO, F.then, ev, getV, R.bind, withL, withO, List.map_cons, List.map_nil, List.cons_append, List.nil_append, List.replicate, List.getElem?_cons_zero, List.getElem?_cons_succ, List.length_cons, List.length_nil, Nat.reduceAdd, Nat.reduceSub, endR, ix, cmpop, der_int, eqD_int, zb, truth, if_false, Bool.false_eq_true, glj, ie, er, Bool.not_false, if_true, gl0, bt, ln2, s0, rv_snoc, mb, st]
theorem frs_cons (m l : Nat) (ls : List Nat) (Q : List (List Nat)) (r : List Nat) : frs m (l :: ls) Q r = frs m ls (frs m [l] Q r).1 (frs m [l] Q r).2 := by
  have e1 : ∀ ls, frs m (l :: ls) Q r = if bitOf m l then frs m ls Q (r ++ [l]) else if r.isEmpty then frs m ls Q [] else frs m ls (Q ++ [r]) [] := fun _ => rfl
  rw [e1, e1]
  cases bitOf m l <;> cases r.isEmpty <;> rfl
theorem fr_loop {call : Nat → List PV → Sto → Rn.R PV} {all : List PV} {p1 : Option PV} {q : Cn} : ∀ {ls : List Nat} {Q : List (List Nat)} {r : List Nat} {X : Sto} {i : Nat} {p4 : Option PV}, (∀ l ∈ ls, l < 6) → X[i]? = some (some (iv r)) → Q.length + r.length + ls.length ≤ 500 →
    ∃ X' i' p4', X'[i']? = some (some (iv (frs (zm q) ls Q r).2)) ∧ forLoop none all (fun x ρ1 S2 => onO (store S2 (.nm 4) x ρ1) fun ρ2 => sx call t.cons t.isx 0 3000 frBody ρ2 S2) (iv ls) [some (cv q), p1, some (.box 0), some (.box (i + 1)), p4] (some (Q.map runV) :: X) = .nx [some (cv q), p1, some (.box 0), some (.box (i' + 1)), p4'] (some ((frs (zm q) ls Q r).1.map runV) :: X')
  | [], Q, r, X, i, p4, _, h, _ => ⟨X, i, p4, h, rfl⟩
  | l :: ls, Q, r, X, i, p4, hl, h, hn => by
    have hn : Q.length + r.length + (ls.length + 1) ≤ 500 := hn
    obtain ⟨X1, i1, h1, e1⟩ := fr_step (call := call) (q := q) (Q := Q) (r := r) (p1 := p1) (hl l List.mem_cons_self) h (by omega)
    have g := frs_len (zm q) [l] Q r
    have g : (frs (zm q) [l] Q r).1.length + (frs (zm q) [l] Q r).2.length ≤ Q.length + r.length + 1 := g
    obtain ⟨X', i', p4', h2, e2⟩ := fr_loop (call := call) (all := all) (p1 := p1) (q := q) (ls := ls) (Q := (frs (zm q) [l] Q r).1) (r := (frs (zm q) [l] Q r).2) (p4 := some (.int (l : Int))) (fun x hx => hl x (List.mem_cons_of_mem _ hx)) h1 (by omega)
    refine ⟨X', i', p4', ?_, ?_⟩
    · rw [frs_cons]
      exact h2
    · rw [frs_cons]
      show forLoop none all _ (.int (l : Int) :: iv ls) _ _ = _
      rw [forL_cons]
      · exact e2
      · exact e1
theorem freeRuns {k : Nat} {q : Cn} {ls : List Nat} {S : Sto} (hl : ∀ l ∈ ls, l < 6) (hn : ls.length ≤ 6) : invoke (run t.tf t.cons t.isx 3000 (k + 1) 10) [cv q, .lst (iv ls)] S = .ok (.lst ((frE (zm q) ls).map runV)) S := by
  obtain ⟨X, i, p4, h, e⟩ := fr_loop (call := run t.tf t.cons t.isx 3000 k) (all := iv ls) (p1 := some (.lst (iv ls))) (q := q) (ls := ls) (Q := []) (r := []) (X := [some []]) (i := 0) (p4 := none) hl rfl (by simp; omega)
  have fl := frs_len (zm q) ls [] []
  refine inv0 (S1 := none :: X) (by simp only [PV.nobs, PV.nob, cv_nob, shps_nob (iv_shp ls), Bool.and_self]) (shps_nob (n := 1) (runs_shp _)) ?_
  rw [run_fn at10 rfl]
  show endR (sx (run t.tf t.cons t.isx 3000 k) t.cons t.isx 0 3000 b10 [some (cv q), some (.lst (iv ls)), none, none, none] []) = _
  have A0 : sx (run t.tf t.cons t.isx 3000 k) t.cons t.isx 0 3000 (.asg (.nm 2) (.lst true .nil)) [some (cv q), some (.lst (iv ls)), none, none, none] [] = .nx [some (cv q), some (.lst (iv ls)), some (.box 0), none, none] [some []] := rfl
  have A1 : sx (run t.tf t.cons t.isx 3000 k) t.cons t.isx 0 3000 (.asg (.nm 3) (.lst true .nil)) [some (cv q), some (.lst (iv ls)), some (.box 0), none, none] [some []] = .nx [some (cv q), some (.lst (iv ls)), some (.box 0), some (.box 1), none] [some [], some []] := rfl
  have A2 : sx (run t.tf t.cons t.isx 3000 k) t.cons t.isx 0 3000 (.for (.nm 4) (.var 1) frBody) [some (cv q), some (.lst (iv ls)), some (.box 0), some (.box 1), none] [some [], some []] = .nx [some (cv q), some (.lst (iv ls)), some (.box 0), some (.box (i + 1)), p4] (some ((frs (zm q) ls [] []).1.map runV) :: X) := e
  have A3 : sx (run t.tf t.cons t.isx 3000 k) t.cons t.isx 0 3000 (.frz 2) [some (cv q), some (.lst (iv ls)), some (.box 0), some (.box (i + 1)), p4] (some ((frs (zm q) ls [] []).1.map runV) :: X) = .nx [some (cv q), some (.lst (iv ls)), some (.lst ((frs (zm q) ls [] []).1.map runV)), some (.box (i + 1)), p4] (none :: X) := rfl
  have glj : getB (none :: X) (i + 1) = some (iv (frs (zm q) ls [] []).2) := by
    show (match X[i]? with
      | some (some l) => some l
      | _ => none) = _
    rw [h]
  have tr : truth (none :: X) (.box (i + 1)) = some (!(frs (zm q) ls [] []).2.isEmpty) := by
    show (match getB (none :: X) (i + 1) with
      | some l => some (!l.isEmpty)
      | none => none) = _
    rw [glj]
    cases (frs (zm q) ls [] []).2 <;> rfl
  have D : ev (run t.tf t.cons t.isx 3000 k) t.cons t.isx (.var 3) [some (cv q), some (.lst (iv ls)), some (.lst ((frs (zm q) ls [] []).1.map runV)), some (.box (i + 1)), p4] (none :: X) = .ok (.box (i + 1)) (none :: X) := rfl
  have bt : blt .tuple false [.box (i + 1)] (none :: X) = .ok (runV (frs (zm q) ls [] []).2) (none :: X) := by
    show (withO (getB (none :: X) (i + 1)) fun l => mkT l (none :: X)) = _
    rw [glj]
    exact mkT1k (by
      rw [iv_len]
      simp at fl
      omega)
  have ad : ∀ S, addop false (.lst ((frs (zm q) ls [] []).1.map runV)) (.lst [runV (frs (zm q) ls [] []).2]) S = .ok (.lst (((frs (zm q) ls [] []).1 ++ [(frs (zm q) ls [] []).2]).map runV)) S := fun S => by
    rw [← rv_snoc]
    exact mk1k (by
      simp at fl ⊢
      omega)
  unfold b10
  unfold frBody at A2
  rw [seq_nx A0, seq_nx A1, seq_nx A2, seq_nx A3]
  unfold frE
  cases ee : (frs (zm q) ls [] []).2.isEmpty with
  | true =>
    rw [ee] at tr
    rw [if_pos rfl]
    simp only [sx, ev, ↓D, R.bind, withO, tr, Bool.not_true, if_false, Bool.false_eq_true, getV, List.getElem?_cons_zero, List.getElem?_cons_succ, onR, F.then, endR]
  | false =>
    rw [ee] at tr
    rw [if_neg (fun h => nomatch h)]
    simp only [sx, ev, ↓D, R.bind, withO, tr, Bool.not_false, if_true, getV, List.getElem?_cons_zero, List.getElem?_cons_succ, onR, F.then, endR, withL, bt, k1, binop, ad]
theorem ne_six : ∀ a : Nat, a < 6 → ∀ b : Nat, b < 6 → ((a : Int) == (b : Int)) = Nat.beq a b := by decide
section
variable {k a b : Nat} {q : Cn} {u v w : PV} {S : Sto}
theorem stretches (ha : a < 6) (hb : b < 6) (hu : u.nob = true) (hv : v.nob = true) (hw : w.nob = true) (pu : ∀ S, invoke (run t.tf t.cons t.isx 3000 (k + 5) 5) [u] S = .ok (.int (a : Int)) S) (pv : ∀ S, invoke (run t.tf t.cons t.isx 3000 (k + 5) 5) [v] S = .ok (.int (b : Int)) S) (fq : ∀ S, invoke (run t.tf t.cons t.isx 3000 (k + 5) 7) [w] S = .ok (cv q) S) : invoke (run t.tf t.cons t.isx 3000 (k + 6) 11) [u, v, w] S = .ok (.tup ((strM (zm q) a b).map runV)) S := by
  have A := all_of (zm_lt q) ha hb
  have r1 := fun S => freeRuns (k := k + 4) (q := q) (S := S) (lfN_mem ha hb) (lfN_lt a ha b hb).2
  have r2 := fun S => freeRuns (k := k + 4) (q := q) (S := S) (lfN_mem hb ha) (lfN_lt b hb a ha).2
  have l1 := fun S => lfS (k := k + 4) (S := S) ha hb
  have l2 := fun S => lfS (k := k + 4) (S := S) hb ha
  have ne := ne_six a ha b hb
  have so := fun S => sorts A.s1 S
  have f1 := frs_len (zm q) (lfN a b) [] []
  have mt : ∀ S, mkT ((strM (zm q) a b).map runV) S = .ok (.tup ((strM (zm q) a b).map runV)) S := fun S => mkT1k (by
    rw [List.length_map]
    have := A.l2
    omega)
  have ge : ∀ c d, c < 6 → d < 6 → (frE (zm q) (lfN c d)).length ≤ 20 := fun c d hc hd => by
    have f := frs_len (zm q) (lfN c d) [] []
    have g := (lfN_lt c hc d hd).2
    unfold frE
    simp only [List.length_nil] at f
    cases (frs (zm q) (lfN c d) [] []).2.isEmpty with
    | true =>
      rw [if_pos rfl]
      omega
    | false =>
      rw [if_neg (fun h => nomatch h), List.length_append, List.length_cons, List.length_nil]
      omega
  have ad : ∀ S, addop false (.lst ((frE (zm q) (lfN a b)).map runV)) (.lst ((frE (zm q) (lfN b a)).map runV)) S = .ok (.lst ((frE (zm q) (lfN a b) ++ frE (zm q) (lfN b a)).map runV)) S := fun S => by
    rw [List.map_append]
    exact mk1k (by
      have := ge a b ha hb
      have := ge b a hb ha
      rw [List.length_append, List.length_map, List.length_map]
      omega)
  have st0 : ∀ S x y, store S (.tup (.cons (.nm 5) (.cons (.nm 6) .nil))) (.tup [x, y]) [some u, some v, some w, none, none, none, none] = some [some u, some v, some w, none, none, some x, some y] := fun _ _ _ => rfl
  have st3 : ∀ S x y z, store S (.nm 3) z [some u, some v, some w, none, none, some x, some y] = some [some u, some v, some w, some z, none, some x, some y] := fun _ _ _ _ => rfl
  have st4 : ∀ S x y z r p, store S (.nm 4) r [some u, some v, some w, some z, p, some x, some y] = some [some u, some v, some w, some z, some r, some x, some y] := fun _ _ _ _ _ _ => rfl
  refine inv0 (S1 := []) (by simp only [PV.nobs, hu, hv, hw, Bool.and_self]) (shps_nob (n := 1) (runs_shp _)) ?_
  show run t.tf t.cons t.isx 3000 (k + 5 + 1) 11 [u, v, w] [] = _
  rw [run_fn at11 rfl]
  unfold strR at so
  cases e : Nat.beq a b with
  | true =>
    rw [e] at ne so
    simp only [if_true] at so
    simp only [b11, sx, onR, onO, F.then, ev, getV, R.bind, withL, withO, List.map_cons, List.map_nil, List.cons_append, List.nil_append, List.replicate, List.getElem?_cons_zero, List.getElem?_cons_succ, List.length_cons, List.length_nil, Nat.reduceAdd, Nat.reduceSub, endR, pu, pv, fq, m2, st0, st3, st4, l1, r1, cmpop, der_int, eqD_int, oneg, ne, Bool.not_true, truth, if_false, Bool.false_eq_true, so, blt_tup, mt]
  | false =>
    rw [e] at ne so
    simp only [if_false, Bool.false_eq_true] at so
    simp only [b11, sx, onR, onO, F.then, ev, getV, R.bind, withL, withO, List.map_cons, List.map_nil, List.cons_append, List.nil_append, List.replicate, List.getElem?_cons_zero, List.getElem?_cons_succ, List.length_cons, List.length_nil, Nat.reduceAdd, Nat.reduceSub, endR, pu, pv, fq, m2, st0, st3, st4, l1, l2, r1, r2, cmpop, der_int, eqD_int, oneg, ne, Bool.not_false, truth, if_true, binop, ad, so, blt_tup, mt]
theorem ints_len : ∀ l : List (List Nat), intsL (l.map fun r => PV.int (r.length : Int)) = some (lenI l)
  | [] => rfl
  | r :: l => by
    show (match intsL (l.map fun r => PV.int (r.length : Int)) with
      | some l => some ((r.length : Int) :: l)
      | none => none) = _
    rw [ints_len l]
    rfl
theorem gapS (ha : a < 6) (hb : b < 6) (hu : u.nob = true) (hv : v.nob = true) (hw : w.nob = true) (pu : ∀ S, invoke (run t.tf t.cons t.isx 3000 (k + 5) 5) [u] S = .ok (.int (a : Int)) S) (pv : ∀ S, invoke (run t.tf t.cons t.isx 3000 (k + 5) 5) [v] S = .ok (.int (b : Int)) S) (fq : ∀ S, invoke (run t.tf t.cons t.isx 3000 (k + 5) 7) [w] S = .ok (cv q) S) : invoke (run t.tf t.cons t.isx 3000 (k + 7) 12) [u, v, w] S = .ok (.int (lgap (zm q) a b : Int)) S := by
  have A := all_of (zm_lt q) ha hb
  have st := fun S => stretches (k := k) (S := S) ha hb hu hv hw pu pv fq
  refine inv0 (S1 := []) (by simp only [PV.nobs, hu, hv, hw, Bool.and_self]) rfl ?_
  show run t.tf t.cons t.isx 3000 (k + 6 + 1) 12 [u, v, w] [] = _
  have L : ev (run t.tf t.cons t.isx 3000 (k + 6)) t.cons t.isx (.lc false [3] (.cl (.nm 3) (.call 11 (.cons (.var 0) (.cons (.var 1) (.cons (.var 2) .nil)))) (.bl true) (.one (.blt .len false (.cons (.var 3) .nil))))) [some u, some v, some w, none] [] = .ok (.lst ((strM (zm q) a b).map fun r => PV.int (r.length : Int))) [] := by
    rw [ev_lc_map (emb := runV) (v := .tup ((strM (zm q) a b).map runV)) (l := strM (zm q) a b) (c := fun _ => true) (g := fun r => PV.int (r.length : Int)) (by simp only [ev, getV, R.bind, withL, wipes, List.set, List.getElem?_cons_zero, List.getElem?_cons_succ, st]) rfl rfl (show 3 < 4 by simp) (fun x hx => rfl) (fun x hx _ => by
      have ln : ∀ S, blt .len false [runV x] S = .ok (.int (x.length : Int)) S := fun S => by
        unfold runV
        rw [blt_len, iv_len]
      simp only [ev, getV, R.bind, withL, wipes, List.set, List.getElem?_cons_zero, List.getElem?_cons_succ, ln])]
    rw [fm_t]
    exact mk1k (by
      rw [List.length_map]
      have := A.l2
      omega)
  have il := ints_len (strM (zm q) a b)
  have g := A.g1
  unfold gapZ at g
  rw [run_fn at12 rfl]
  show endR (sx (run t.tf t.cons t.isx 3000 (k + 6)) t.cons t.isx 0 3000 b12 [some u, some v, some w, none] []) = _
  have M : ∀ x, ev (run t.tf t.cons t.isx 3000 (k + 6)) t.cons t.isx (.maxd x (.int 0)) [some u, some v, some w, none] [] = (ev (run t.tf t.cons t.isx 3000 (k + 6)) t.cons t.isx x [some u, some v, some w, none] []).bind fun v S1 => (R.ok (PV.int 0) S1).bind fun w S2 => withO (lstOf S2 v) fun l => withO (intsL l) fun l => match imax l with
    | some i => .ok (.int i) S2
    | none => .ok w S2 := fun _ => rfl
  unfold b12
  simp only [sx, M, ↓L, R.bind, withO, lstOf, il]
  cases hm : imax (lenI (strM (zm q) a b)) with
  | some i =>
    rw [hm] at g
    rw [← g]
    simp only [onR, F.then, endR]
  | none =>
    rw [hm] at g
    rw [← g]
    simp only [onR, F.then, endR]
end
end Lw
set_option maxHeartbeats 0
namespace Lw
open Rn PySem
theorem at20 : t.tf 20 = some ⟨3, 11, b20⟩ := rfl
theorem at21 : t.tf 21 = some ⟨3, 12, b21⟩ := rfl
theorem at22 : t.tf 22 = some ⟨2, 3, b22⟩ := rfl
theorem flat_filter {α β : Type} (c : α → Bool) (g : α → β) : ∀ l : List α, (l.flatMap fun x => if c x then [g x] else []) = (l.filter c).map g
  | [] => rfl
  | x :: l => by
    rw [List.flatMap_cons, flat_filter c g l, List.filter_cons]
    cases c x <;> rfl
theorem runN_lt {k n : Nat} : ∀ l ∈ runN k n, l < 6 := fun l hl => by
  obtain ⟨o, _, rfl⟩ := List.mem_map.mp hl
  exact Nat.mod_lt _ (by decide)
theorem runN_len (k n : Nat) : (runN k n).length = n := by
  simp [runN]
theorem insN_len (k n : Nat) : (insN k n).length = n - 1 := by
  simp [insN]
theorem has_in {l : List Nat} {a : Nat} {S : Sto} : isIn S (.int (a : Int)) (.lst (iv l)) = some (has l a) := by
  have e : ((iv l).any fun z => z.beq (.int (a : Int))) = has l a := by
    unfold iv has
    rw [List.any_map]
    congr 1
    funext x
    show (PV.int (x : Int)).beq (.int (a : Int)) = _
    rw [beqI]
    cases h : Nat.beq x a with
    | true =>
      cases Nat.eq_of_beq_eq_true h
      exact decide_eq_true rfl
    | false =>
      exact decide_eq_false fun h2 => by
        have h3 : x = a := by omega
        subst h3
        rw [Nat.beq_refl] at h
        cases h
  show (if PV.shps deep (iv l) then some ((iv l).any fun z => z.beq (.int (a : Int))) else none) = _
  rw [show deep = 0 + 60 from rfl, shps_up (iv_shp l) 60, if_pos rfl, e]
theorem eq_nil {X : List PV} {S : Sto} (h : PV.shps 0 X = true) : cmpop .eq (.lst X) (.lst []) S = some X.isEmpty := by
  have e : (PV.lst X).beq (.lst []) = X.isEmpty := by
    cases X with
    | nil => rfl
    | cons x X => simp [PV.beq, PV.beqs]
  have g : (PV.lst X).shp deep = true := by
    show PV.shps 59 X = true
    exact shps_up h 59
  show (if (PV.lst X).shp deep && true then some ((PV.lst X).beq (.lst [])) else none) = _
  rw [g, e]
  rfl
theorem ne_nil {X : List PV} {S : Sto} (h : PV.shps 0 X = true) : cmpop .ne (.lst X) (.lst []) S = some (!X.isEmpty) := by
  have e := eq_nil (S := S) h
  have e : eqD (.lst X) (.lst []) = some X.isEmpty := e
  show oneg (eqD (.lst X) (.lst [])) = _
  rw [e]
  rfl
theorem all_empty (m : Nat) : ∀ l : List Nat, (iv (l.filter fun x => !bitOf m x)).isEmpty = l.all (bitOf m)
  | [] => rfl
  | x :: l => by
    rw [List.filter_cons, List.all_cons]
    cases e : bitOf m x with
    | true =>
      rw [Bool.not_true, if_neg (fun h => nomatch h), Bool.true_and]
      exact all_empty m l
    | false => rfl
def gA : Sm := (.asg (.nm 8) (.lc false [10] (.cl (.nm 10) (.irng (.cons (.var 7) .nil)) (.bl true) (.one (.bin .mod false (.blt .int false (.cons (.bin .add false (.var 4) (.var 10)) .nil)) (.int 6))))))
def gB : Sm := (.asg (.nm 9) (.lc false [10] (.cl (.nm 10) (.slc false (.var 8) .abs (.prt (.neg (.int 1)))) (.bl true) (.one (.bin .mod false (.blt .int false (.cons (.bin .add false (.var 10) (.int 1)) .nil)) (.int 6))))))
def gC : Sm := (.ife (.or (.cmp .ne (.lc false [10] (.cl (.nm 10) (.var 8) (.cmp .ne (.idx (.var 2) (.var 10)) (.int 0)) (.one (.var 10)))) (.lst false .nil)) (.or (.cmp .inn (.var 5) (.var 9)) (.cmp .inn (.var 6) (.var 9)))) (.seq .cnt .nil) .nil)
def gD : Sm := (.ife (.or (.cmp .lt (.var 7) (.int 6)) (.cmp .eq (.var 4) (.var 5))) (.seq (.asg (.nm 3) (.blt .max2 false (.cons (.var 3) (.cons (.var 7) .nil)))) .nil) .nil)
theorem gAB {call : Nat → List PV → Sto → Rn.R PV} {S : Sto} (p0 p1 p2 p3 p5 p6 p8 p9 p10 : Option PV) : ((List.range 36).map fun j => sx call t.cons t.isx 0 3000 (.seq gA (.seq gB .nil)) [p0, p1, p2, p3, some (.int ((j / 6 : Nat) : Int)), p5, p6, some (.int ((j % 6 + 1 : Nat) : Int)), p8, p9, p10] S) = (List.range 36).map fun j => F.nx [p0, p1, p2, p3, some (.int ((j / 6 : Nat) : Int)), p5, p6, some (.int ((j % 6 + 1 : Nat) : Int)), some (.lst (iv (runN (j / 6) (j % 6 + 1)))), some (.lst (iv (insN (j / 6) (j % 6 + 1)))), p10] S := by kernel_rfl
def rA : Sm := (.asg (.nm 8) (.blt .tuple false (.cons (.lc false [10] (.cl (.nm 10) (.irng (.cons (.var 7) .nil)) (.bl true) (.one (.bin .mod false (.blt .int false (.cons (.bin .add false (.var 4) (.var 10)) .nil)) (.int 6))))) .nil)))
def rB : Sm := (.asg (.nm 9) (.lc false [10] (.cl (.nm 10) (.slc false (.var 8) .abs (.prt (.neg (.int 1)))) (.bl true) (.one (.bin .mod false (.blt .int false (.cons (.bin .add false (.var 10) (.int 1)) .nil)) (.int 6))))))
def rC : Sm := (.ife (.and (.cmp .eq (.lc false [10] (.cl (.nm 10) (.var 8) (.cmp .ne (.idx (.var 2) (.var 10)) (.int 0)) (.one (.var 10)))) (.lst false .nil)) (.and (.cmp .nin (.var 5) (.var 9)) (.and (.cmp .nin (.var 6) (.var 9)) (.or (.cmp .lt (.var 7) (.int 6)) (.chn .eq .eq (.var 4) (.var 5) (.var 6)))))) (.seq (.app (.var 3) (.var 8)) .nil) .nil)
theorem rAB {call : Nat → List PV → Sto → Rn.R PV} {S : Sto} (p0 p1 p2 p3 p5 p6 p8 p9 p10 p11 : Option PV) : ((List.range 36).map fun j => sx call t.cons t.isx 0 3000 (.seq rA (.seq rB .nil)) [p0, p1, p2, p3, some (.int ((j / 6 : Nat) : Int)), p5, p6, some (.int ((j % 6 + 1 : Nat) : Int)), p8, p9, p10, p11] S) = (List.range 36).map fun j => F.nx [p0, p1, p2, p3, some (.int ((j / 6 : Nat) : Int)), p5, p6, some (.int ((j % 6 + 1 : Nat) : Int)), some (runV (runN (j / 6) (j % 6 + 1))), some (.lst (iv (insN (j / 6) (j % 6 + 1)))), p10, p11] S := by kernel_rfl
theorem seq2 {call : Nat → List PV → Sto → Rn.R PV} {a b r : Sm} {ρ ρ1 : Rn.Env} {S S1 : Sto} (h : sx call t.cons t.isx 0 3000 (.seq a (.seq b .nil)) ρ S = .nx ρ1 S1) : sx call t.cons t.isx 0 3000 (.seq a (.seq b r)) ρ S = sx call t.cons t.isx 0 3000 r ρ1 S1 := by
  have e1 : sx call t.cons t.isx 0 3000 (.seq a (.seq b .nil)) ρ S = (sx call t.cons t.isx 0 3000 a ρ S).then fun ρ S => (sx call t.cons t.isx 0 3000 b ρ S).then fun ρ S => .nx ρ S := rfl
  have e2 : sx call t.cons t.isx 0 3000 (.seq a (.seq b r)) ρ S = (sx call t.cons t.isx 0 3000 a ρ S).then fun ρ S => (sx call t.cons t.isx 0 3000 b ρ S).then fun ρ S => sx call t.cons t.isx 0 3000 r ρ S := rfl
  rw [e1] at h
  rw [e2]
  cases ha : sx call t.cons t.isx 0 3000 a ρ S with
  | nx ρ2 S2 =>
    rw [ha] at h
    have h : ((sx call t.cons t.isx 0 3000 b ρ2 S2).then fun ρ S => F.nx ρ S) = .nx ρ1 S1 := h
    show ((sx call t.cons t.isx 0 3000 b ρ2 S2).then fun ρ S => sx call t.cons t.isx 0 3000 r ρ S) = _
    cases hb : sx call t.cons t.isx 0 3000 b ρ2 S2 with
    | nx ρ3 S3 =>
      rw [hb] at h
      cases h
      rfl
    | _ =>
      rw [hb] at h
      cases h
  | _ =>
    rw [ha] at h
    cases h
theorem lt_six : ∀ n : Nat, ilt (n : Int) 6 = Nat.blt n 6 := fun _ => rfl
section
variable {call : Nat → List PV → Sto → Rn.R PV} {q : Cn} {a b kk n best : Nat} {S : Sto} {p0 p1 p3 p8 p9 p10 p11 : Option PV}
theorem lcRun {l : List Nat} (hl : ∀ x ∈ l, x < 6) (hn : l.length ≤ 6) {v : PV} (hv : ∀ S, items S v = some (iv l)) (hb : boxOf v = none) : ev call t.cons t.isx (.lc false [10] (.cl (.nm 10) (.var 8) (.cmp .ne (.idx (.var 2) (.var 10)) (.int 0)) (.one (.var 10)))) [p0, p1, some (cv q), p3, some (.int (kk : Int)), some (.int (a : Int)), some (.int (b : Int)), some (.int (n : Int)), some v, p9, p10] S = .ok (.lst (iv (l.filter fun x => !bitOf (zm q) x))) S := by
  rw [ev_lc_map (emb := fun (k : Nat) => PV.int (k : Int)) (v := v) (l := l) (c := fun x => !bitOf (zm q) x) (g := fun k => .int (k : Int)) rfl (hv S) hb (show 10 < 11 by simp) (fun x hx => by
    have hx := hl x hx
    have i1 := fun S => ix_cv (q := q) (S := S) hx
    simp only [ev, getV, R.bind, withL, withO, wipes, List.set, List.getElem?_cons_zero, List.getElem?_cons_succ, i1, cmpop, der_int, eqD_int, oneg, zm_bit q hx]) (fun x hx _ => rfl)]
  rw [flat_filter]
  exact mk1k (by
    rw [List.length_map]
    have := List.length_filter_le (fun x => !bitOf (zm q) x) l
    omega)
theorem lcRunR {l : List Nat} (hl : ∀ x ∈ l, x < 6) (hn : l.length ≤ 6) {v : PV} (hv : ∀ S, items S v = some (iv l)) (hb : boxOf v = none) : ev call t.cons t.isx (.lc false [10] (.cl (.nm 10) (.var 8) (.cmp .ne (.idx (.var 2) (.var 10)) (.int 0)) (.one (.var 10)))) [p0, p1, some (cv q), p3, some (.int (kk : Int)), some (.int (a : Int)), some (.int (b : Int)), some (.int (n : Int)), some v, p9, p10, p11] S = .ok (.lst (iv (l.filter fun x => !bitOf (zm q) x))) S := by
  rw [ev_lc_map (emb := fun (k : Nat) => PV.int (k : Int)) (v := v) (l := l) (c := fun x => !bitOf (zm q) x) (g := fun k => .int (k : Int)) rfl (hv S) hb (show 10 < 12 by simp) (fun x hx => by
    have hx := hl x hx
    have i1 := fun S => ix_cv (q := q) (S := S) hx
    simp only [ev, getV, R.bind, withL, withO, wipes, List.set, List.getElem?_cons_zero, List.getElem?_cons_succ, i1, cmpop, der_int, eqD_int, oneg, zm_bit q hx]) (fun x hx _ => rfl)]
  rw [flat_filter]
  exact mk1k (by
    rw [List.length_map]
    have := List.length_filter_le (fun x => !bitOf (zm q) x) l
    omega)
/-- one turn of the own gap -/
theorem gap_turn (hk : kk < 6) (ha : a < 6) (h1 : 0 < n) (h6 : n ≤ 6) : ∃ p8' p9', (sx call t.cons t.isx 0 3000 (.seq gA (.seq gB (.seq gC (.seq gD .nil)))) [p0, p1, some (cv q), some (.int (best : Int)), some (.int (kk : Int)), some (.int (a : Int)), some (.int (b : Int)), some (.int (n : Int)), p8, p9, p10] S = .nx [p0, p1, some (cv q), some (.int ((lstep (zm q) a b kk n best : Nat) : Int)), some (.int (kk : Int)), some (.int (a : Int)), some (.int (b : Int)), some (.int (n : Int)), p8', p9', p10] S ∨
    sx call t.cons t.isx 0 3000 (.seq gA (.seq gB (.seq gC (.seq gD .nil)))) [p0, p1, some (cv q), some (.int (best : Int)), some (.int (kk : Int)), some (.int (a : Int)), some (.int (b : Int)), some (.int (n : Int)), p8, p9, p10] S = .ct [p0, p1, some (cv q), some (.int ((lstep (zm q) a b kk n best : Nat) : Int)), some (.int (kk : Int)), some (.int (a : Int)), some (.int (b : Int)), some (.int (n : Int)), p8', p9', p10] S) := by
  have e := List.map_inj_left.mp (gAB (call := call) (S := S) p0 p1 (some (cv q)) (some (.int (best : Int))) (some (.int (a : Int))) (some (.int (b : Int))) p8 p9 p10) (kk * 6 + (n - 1)) (List.mem_range.mpr (by omega))
  rw [show (kk * 6 + (n - 1)) / 6 = kk by omega, show (kk * 6 + (n - 1)) % 6 + 1 = n by omega] at e
  refine ⟨some (.lst (iv (runN kk n))), some (.lst (iv (insN kk n))), ?_⟩
  rw [seq2 e]
  have L := lcRun (call := call) (q := q) (a := a) (b := b) (kk := kk) (n := n) (S := S) (p0 := p0) (p1 := p1) (p3 := some (.int (best : Int))) (p9 := some (.lst (iv (insN kk n)))) (p10 := p10) (l := runN kk n) runN_lt (by
    rw [runN_len]
    exact h6) (v := .lst (iv (runN kk n))) (fun _ => rfl) rfl
  have ne := fun S => ne_nil (S := S) (iv_shp ((runN kk n).filter fun x => !bitOf (zm q) x))
  rw [all_empty] at ne
  have i1 : ∀ S, cmpop .inn (.int (a : Int)) (.lst (iv (insN kk n))) S = some (has (insN kk n) a) := fun S => has_in
  have i2 : ∀ S, cmpop .inn (.int (b : Int)) (.lst (iv (insN kk n))) S = some (has (insN kk n) b) := fun S => has_in
  have kk0 : ∀ S, mk false [] S = .ok (.lst []) S := fun _ => rfl
  have l6 : ∀ S, cmpop .lt (.int (n : Int)) (.int 6) S = some (Nat.blt n 6) := fun _ => rfl
  have ek : ∀ S, cmpop .eq (.int (kk : Int)) (.int (a : Int)) S = some (Nat.beq kk a) := fun _ => by
    show eqD (.int (kk : Int)) (.int (a : Int)) = _
    rw [eqD_int, ne_six kk hk a ha]
  have bm : ∀ i j S, blt .max2 false [.int i, .int j] S = .ok (.int (if ilt i j then j else i)) S := fun _ _ _ => rfl
  have im : (if ilt (best : Int) (n : Int) then (n : Int) else (best : Int)) = (((if Nat.blt best n then n else best) : Nat) : Int) := by
    show (if Nat.blt best n then (n : Int) else (best : Int)) = _
    cases Nat.blt best n <;> rfl
  have st : ∀ S v, store S (.nm 3) v [p0, p1, some (cv q), some (.int (best : Int)), some (.int (kk : Int)), some (.int (a : Int)), some (.int (b : Int)), some (.int (n : Int)), some (.lst (iv (runN kk n))), some (.lst (iv (insN kk n))), p10] = some [p0, p1, some (cv q), some v, some (.int (kk : Int)), some (.int (a : Int)), some (.int (b : Int)), some (.int (n : Int)), some (.lst (iv (runN kk n))), some (.lst (iv (insN kk n))), p10] := fun _ _ => rfl
  unfold lstep okG
  cases z1 : (runN kk n).all (bitOf (zm q)) with
  | false =>
    rw [z1] at ne
    right
    simp only [gC, sx, onR, onO, F.then, ev, ↓L, getV, R.bind, withL, withO, kk0, ne, Bool.not_false, Bool.false_and, truth, if_true, if_false, Bool.false_eq_true]
  | true =>
    rw [z1] at ne
    cases z2 : has (insN kk n) a with
    | true =>
      rw [z2] at i1
      right
      simp only [gC, sx, onR, onO, F.then, ev, ↓L, getV, R.bind, withL, withO, kk0, ne, Bool.not_true, Bool.true_or, Bool.and_false, truth, if_true, if_false, Bool.false_eq_true, List.getElem?_cons_zero, List.getElem?_cons_succ, i1]
    | false =>
      rw [z2] at i1
      cases z3 : has (insN kk n) b with
      | true =>
        rw [z3] at i2
        right
        simp only [gC, sx, onR, onO, F.then, ev, ↓L, getV, R.bind, withL, withO, kk0, ne, Bool.not_true, Bool.or_true, Bool.and_false, truth, if_true, if_false, Bool.false_eq_true, List.getElem?_cons_zero, List.getElem?_cons_succ, i1, i2]
      | false =>
        rw [z3] at i2
        left
        rw [if_pos (show (true && !(false || false)) = true from rfl)]
        cases z4 : Nat.blt n 6 with
        | true =>
          rw [z4] at l6
          rw [if_pos (show (true || Nat.beq kk a) = true from rfl)]
          simp only [gC, gD, sx, onR, onO, F.then, ev, ↓L, getV, R.bind, withL, withO, kk0, ne, Bool.not_true, truth, if_true, if_false, Bool.false_eq_true, List.getElem?_cons_zero, List.getElem?_cons_succ, i1, i2, l6, bm, im, st]
        | false =>
          rw [z4] at l6
          rw [Bool.false_or]
          cases z5 : Nat.beq kk a with
          | true =>
            rw [z5] at ek
            rw [if_pos rfl]
            simp only [gC, gD, sx, onR, onO, F.then, ev, ↓L, getV, R.bind, withL, withO, kk0, ne, Bool.not_true, truth, if_true, if_false, Bool.false_eq_true, List.getElem?_cons_zero, List.getElem?_cons_succ, i1, i2, l6, ek, bm, im, st]
          | false =>
            rw [z5] at ek
            rw [if_neg (fun h => nomatch h)]
            simp only [gC, gD, sx, onR, onO, F.then, ev, ↓L, getV, R.bind, withL, withO, kk0, ne, Bool.not_true, truth, if_true, if_false, Bool.false_eq_true, List.getElem?_cons_zero, List.getElem?_cons_succ, i1, i2, l6, ek]
theorem forL_ct {all : List PV} {f : PV → Rn.Env → Sto → F} {x : PV} {xs : List PV} {ρ ρ1 : Rn.Env} {S S1 : Sto} (h : f x ρ S = .ct ρ1 S1) : forLoop none all f (x :: xs) ρ S = forLoop none all f xs ρ1 S1 := by
  show (match f x ρ S with
    | .nx ρ1 S1 => forLoop none all f xs ρ1 S1
    | .ct ρ1 S1 => forLoop none all f xs ρ1 S1
    | .bk ρ1 S1 => F.nx ρ1 S1
    | f => f) = _
  rw [h]
theorem gap_row (hk : kk < 6) (ha : a < 6) {all : List PV} : ∀ {ns : List Nat} {best : Nat} {p7 p8 p9 : Option PV}, (∀ n ∈ ns, 0 < n ∧ n ≤ 6) → ∃ p7' p8' p9',
    forLoop none all (fun x ρ1 S2 => onO (store S2 (.nm 7) x ρ1) fun ρ2 => sx call t.cons t.isx 0 3000 (.seq gA (.seq gB (.seq gC (.seq gD .nil)))) ρ2 S2) (iv ns) [p0, p1, some (cv q), some (.int (best : Int)), some (.int (kk : Int)), some (.int (a : Int)), some (.int (b : Int)), p7, p8, p9, p10] S = .nx [p0, p1, some (cv q), some (.int ((ns.foldl (fun best n => lstep (zm q) a b kk n best) best : Nat) : Int)), some (.int (kk : Int)), some (.int (a : Int)), some (.int (b : Int)), p7', p8', p9', p10] S
  | [], best, p7, p8, p9, _ => ⟨p7, p8, p9, rfl⟩
  | n :: ns, best, p7, p8, p9, h => by
    obtain ⟨h1, h6⟩ := h n List.mem_cons_self
    obtain ⟨p8a, p9a, e⟩ := gap_turn (call := call) (q := q) (a := a) (b := b) (kk := kk) (n := n) (best := best) (S := S) (p0 := p0) (p1 := p1) (p8 := p8) (p9 := p9) (p10 := p10) hk ha h1 h6
    obtain ⟨p7', p8', p9', e2⟩ := gap_row hk ha (all := all) (ns := ns) (best := lstep (zm q) a b kk n best) (p7 := some (.int (n : Int))) (p8 := p8a) (p9 := p9a) fun x hx => h x (List.mem_cons_of_mem _ hx)
    refine ⟨p7', p8', p9', ?_⟩
    have st : ∀ S, store S (.nm 7) (.int (n : Int)) [p0, p1, some (cv q), some (.int (best : Int)), some (.int (kk : Int)), some (.int (a : Int)), some (.int (b : Int)), p7, p8, p9, p10] = some [p0, p1, some (cv q), some (.int (best : Int)), some (.int (kk : Int)), some (.int (a : Int)), some (.int (b : Int)), some (.int (n : Int)), p8, p9, p10] := fun _ => rfl
    show forLoop none all _ (.int (n : Int) :: iv ns) _ _ = _
    rcases e with e | e
    · rw [forL_cons]
      · exact e2
      · rw [st]
        exact e
    · rw [forL_ct]
      · exact e2
      · rw [st]
        exact e
theorem gap_rows (ha : a < 6) {all : List PV} : ∀ {ks : List Nat} {best : Nat} {p4 p7 p8 p9 : Option PV}, (∀ n ∈ ks, n < 6) → ∃ p4' p7' p8' p9',
    forLoop none all (fun x ρ1 S2 => onO (store S2 (.nm 4) x ρ1) fun ρ2 => sx call t.cons t.isx 0 3000 (.seq (.for (.nm 7) (.irng (.cons (.int 1) (.cons (.int 7) .nil))) (.seq gA (.seq gB (.seq gC (.seq gD .nil))))) .nil) ρ2 S2) (iv ks) [p0, p1, some (cv q), some (.int (best : Int)), p4, some (.int (a : Int)), some (.int (b : Int)), p7, p8, p9, p10] S = .nx [p0, p1, some (cv q), some (.int ((ks.foldl (fun best k => lrow (zm q) a b k best) best : Nat) : Int)), p4', some (.int (a : Int)), some (.int (b : Int)), p7', p8', p9', p10] S
  | [], best, p4, p7, p8, p9, _ => ⟨p4, p7, p8, p9, rfl⟩
  | n :: ns, best, p4, p7, p8, p9, h => by
    obtain ⟨p7a, p8a, p9a, e⟩ := gap_row (call := call) (q := q) (a := a) (b := b) (kk := n) (S := S) (p0 := p0) (p1 := p1) (p10 := p10) (all := iv n16) (h n List.mem_cons_self) ha (ns := n16) (best := best) (p7 := p7) (p8 := p8) (p9 := p9) (by decide)
    obtain ⟨p4', p7', p8', p9', e2⟩ := gap_rows ha (all := all) (ks := ns) (best := lrow (zm q) a b n best) (p4 := some (.int (n : Int))) (p7 := p7a) (p8 := p8a) (p9 := p9a) fun x hx => h x (List.mem_cons_of_mem _ hx)
    refine ⟨p4', p7', p8', p9', ?_⟩
    have st : ∀ S, store S (.nm 4) (.int (n : Int)) [p0, p1, some (cv q), some (.int (best : Int)), p4, some (.int (a : Int)), some (.int (b : Int)), p7, p8, p9, p10] = some [p0, p1, some (cv q), some (.int (best : Int)), some (.int (n : Int)), some (.int (a : Int)), some (.int (b : Int)), p7, p8, p9, p10] := fun _ => rfl
    show forLoop none all _ (.int (n : Int) :: iv ns) _ _ = _
    rw [forL_cons]
    · exact e2
    · rw [st]
      have B : sx call t.cons t.isx 0 3000 (.for (.nm 7) (.irng (.cons (.int 1) (.cons (.int 7) .nil))) (.seq gA (.seq gB (.seq gC (.seq gD .nil))))) [p0, p1, some (cv q), some (.int (best : Int)), some (.int (n : Int)), some (.int (a : Int)), some (.int (b : Int)), p7, p8, p9, p10] S = .nx [p0, p1, some (cv q), some (.int ((lrow (zm q) a b n best : Nat) : Int)), some (.int (n : Int)), some (.int (a : Int)), some (.int (b : Int)), p7a, p8a, p9a, p10] S := e
      show sx call t.cons t.isx 0 3000 (.seq _ .nil) _ S = _
      rw [seq_nx B]
      rfl
end
theorem lawGap {k a b : Nat} {q : Cn} {S : Sto} (ha : a < 6) (hb : b < 6) : invoke (run t.tf t.cons t.isx 3000 (k + 2) 20) [poseC a, poseC b, cv q] S = .ok (.int (lgap (zm q) a b : Int)) S := by
  obtain ⟨p4, p7, p8, p9, e⟩ := gap_rows (call := run t.tf t.cons t.isx 3000 (k + 1)) (q := q) (a := a) (b := b) (S := []) (p0 := some (poseC a)) (p1 := some (poseC b)) (p10 := none) ha (all := iv (List.range 6)) (ks := List.range 6) (best := 0) (p4 := none) (p7 := none) (p8 := none) (p9 := none) (by decide)
  refine inv0 (S1 := []) (by simp only [PV.nobs, pose_nob ha, pose_nob hb, cv_nob, Bool.and_self]) rfl ?_
  show run t.tf t.cons t.isx 3000 (k + 1 + 1) 20 [poseC a, poseC b, cv q] [] = _
  rw [run_fn at20 rfl]
  show endR (sx (run t.tf t.cons t.isx 3000 (k + 1)) t.cons t.isx 0 3000 b20 [some (poseC a), some (poseC b), some (cv q), none, none, none, none, none, none, none, none] []) = _
  have po := fun S => poses_ (k := k) (S := S)
  have x1 := fun S => ix_ring S ha
  have x2 := fun S => ix_ring S hb
  have sq : ∀ S, seqOf S (.lst ringC) = some ringC := fun S => rfl
  have A : sx (run t.tf t.cons t.isx 3000 (k + 1)) t.cons t.isx 0 3000 (.asg (.tup (.cons (.nm 5) (.cons (.nm 6) .nil))) (.tup (.cons (.mth .index false (.call 19 .nil) (.cons (.var 0) .nil)) (.cons (.mth .index false (.call 19 .nil) (.cons (.var 1) .nil)) .nil)))) [some (poseC a), some (poseC b), some (cv q), none, none, none, none, none, none, none, none] [] = .nx [some (poseC a), some (poseC b), some (cv q), none, none, some (.int (a : Int)), some (.int (b : Int)), none, none, none, none] [] := by
    have st : ∀ S x y, store S (.tup (.cons (.nm 5) (.cons (.nm 6) .nil))) (.tup [x, y]) [some (poseC a), some (poseC b), some (cv q), none, none, none, none, none, none, none, none] = some [some (poseC a), some (poseC b), some (cv q), none, none, some x, some y, none, none, none, none] := fun _ _ _ => rfl
    simp only [sx, onR, onO, F.then, ev, getV, R.bind, withL, withO, List.map_cons, List.map_nil, List.cons_append, List.nil_append, List.replicate, List.getElem?_cons_zero, List.getElem?_cons_succ, List.length_cons, List.length_nil, Nat.reduceAdd, Nat.reduceSub, endR, po, sq, x1, x2, m2, st]
  have B : sx (run t.tf t.cons t.isx 3000 (k + 1)) t.cons t.isx 0 3000 (.asg (.nm 3) (.int 0)) [some (poseC a), some (poseC b), some (cv q), none, none, some (.int (a : Int)), some (.int (b : Int)), none, none, none, none] [] = .nx [some (poseC a), some (poseC b), some (cv q), some (.int 0), none, some (.int (a : Int)), some (.int (b : Int)), none, none, none, none] [] := rfl
  have C : sx (run t.tf t.cons t.isx 3000 (k + 1)) t.cons t.isx 0 3000 (.for (.nm 4) (.irng (.cons (.int 6) .nil)) (.seq (.for (.nm 7) (.irng (.cons (.int 1) (.cons (.int 7) .nil))) (.seq gA (.seq gB (.seq gC (.seq gD .nil))))) .nil)) [some (poseC a), some (poseC b), some (cv q), some (.int 0), none, some (.int (a : Int)), some (.int (b : Int)), none, none, none, none] [] = .nx [some (poseC a), some (poseC b), some (cv q), some (.int ((lgap (zm q) a b : Nat) : Int)), p4, some (.int (a : Int)), some (.int (b : Int)), p7, p8, p9, none] [] := e
  unfold gA gB gC gD at C
  unfold b20
  rw [seq_nx A, seq_nx B, seq_nx C]
  simp only [sx, onR, onO, F.then, ev, getV, R.bind, withL, withO, List.map_cons, List.map_nil, List.cons_append, List.nil_append, List.replicate, List.getElem?_cons_zero, List.getElem?_cons_succ, List.length_cons, List.length_nil, Nat.reduceAdd, Nat.reduceSub, endR]
end Lw
set_option maxHeartbeats 0
namespace Lw
open Rn PySem
theorem lcLoop_box {α : Type} {emb : α → PV} {n : Nat} {all : List PV} {step : PV → Sto → Rn.R (List PV)} {g : α → List PV} {S : Sto} (hs : stays (some n) all S = true) : ∀ {l : List α}, (∀ x ∈ l, step (emb x) S = .ok (g x) S) → lcLoop (some n) all step (l.map emb) S = .ok (l.flatMap g) S
  | [], _ => by
    show (if stays (some n) all S then Rn.R.ok [] S else .no) = _
    rw [hs]
    rfl
  | x :: l, h => by
    have e := lcLoop_box (l := l) hs fun y hy => h y (List.mem_cons_of_mem _ hy)
    have e0 := h x List.mem_cons_self
    show (if stays (some n) all S then (match step (emb x) S with
      | .ok r S1 => match lcLoop (some n) all step (l.map emb) S1 with
        | .ok r2 S2 => Rn.R.ok (r ++ r2) S2
        | _ => .no
      | _ => .no) else .no) = _
    rw [hs, if_pos rfl, e0]
    show (match lcLoop (some n) all step (l.map emb) S with
        | .ok r2 S2 => Rn.R.ok (g x ++ r2) S2
        | _ => .no) = _
    rw [e]
    rfl
/-- a comprehension over a list that lives in the store -/
theorem ev_lcB {α : Type} {emb : α → PV} {call : Nat → List PV → Sto → Rn.R PV} {own : List Nat} {i j n : Nat} {cond elt : Ex} {ρ : Rn.Env} {S : Sto} {l : List α} {c : α → Bool} {g : α → PV} (hit : ev call t.cons t.isx (.var j) (wipes ρ own) S = .ok (.box n) S) (hl : getB S n = some (l.map emb)) (hst : PV.sames (l.map emb) (l.map emb) = true) (hi : i < ρ.length)
    (hc : ∀ x ∈ l, ev call t.cons t.isx cond ((wipes ρ own).set i (some (emb x))) S = .ok (.bl (c x)) S) (he : ∀ x ∈ l, c x = true → ev call t.cons t.isx elt ((wipes ρ own).set i (some (emb x))) S = .ok (g x) S) :
    ev call t.cons t.isx (.lc false own (.cl (.nm i) (.var j) cond (.one elt))) ρ S = mk false ((l.filter c).map g) S := by
  have hs : stays (some n) (l.map emb) S = true := by
    show (match getB S n with
      | some l' => PV.sames (l.map emb) l'
      | none => false) = true
    rw [hl]
    exact hst
  have L := lcLoop_box (emb := emb) (all := l.map emb) (S := S) (l := l) (g := fun x => if c x then [g x] else []) (step := fun x S2 => withO (store S2 (.nm i) x (wipes ρ own)) fun ρ' => (ev call t.cons t.isx cond ρ' S2).bind fun w S3 => withO (truth S3 w) fun b =>
        if b then (ev call t.cons t.isx (.one elt) ρ' S3).bind fun r S4 => withL r fun vs => .ok vs S4 else .ok [] S3) hs fun x hx => by
    have q := lcSt (own := own) hi (emb x) S
    have q2 := hc x hx
    cases hcx : c x with
    | false =>
      rw [hcx] at q2
      simp only [q, q2, withO, R.bind, truth, if_false, Bool.false_eq_true]
    | true =>
      rw [hcx] at q2
      have q3 := he x hx hcx
      simp only [q, q2, withO, R.bind, truth, if_true, ev, q3, withL]
  have it : items S (.box n) = some (l.map emb) := hl
  have bo : boxOf (.box n) = some n := rfl
  simp only [ev] at L hit
  simp only [ev, hit, R.bind, it, bo, withO, withL]
  simp only [R.bind, withO, withL] at L
  rw [L, flat_filter]
theorem sames_iv : ∀ l : List Nat, PV.sames (iv l) (iv l) = true
  | [] => rfl
  | a :: l => by
    show (PV.same (.int (a : Int)) (.int (a : Int)) && PV.sames (iv l) (iv l)) = true
    rw [sames_iv l]
    simp [PV.same]
def emV (p : Nat × Nat) : PV := runV (emN p)
theorem sames_em : ∀ l : List (Nat × Nat), PV.sames (l.map emV) (l.map emV) = true
  | [] => rfl
  | a :: l => by
    show (PV.sames (iv (emN a)) (iv (emN a)) && PV.sames (l.map emV) (l.map emV)) = true
    rw [sames_iv, sames_em l]
    rfl
section
variable {call : Nat → List PV → Sto → Rn.R PV} {q : Cn} {a b kk n : Nat} {p0 p1 p8 p9 p10 p11 : Option PV}
theorem run_turn (hk : kk < 6) (ha : a < 6) (hb : b < 6) (h1 : 0 < n) (h6 : n ≤ 6) {acc : List (Nat × Nat)} (hn : acc.length ≤ 100) : ∃ p8' p9', sx call t.cons t.isx 0 3000 (.seq rA (.seq rB (.seq rC .nil))) [p0, p1, some (cv q), some (.box 0), some (.int (kk : Int)), some (.int (a : Int)), some (.int (b : Int)), some (.int (n : Int)), p8, p9, p10, p11] [some (acc.map emV)] = .nx [p0, p1, some (cv q), some (.box 0), some (.int (kk : Int)), some (.int (a : Int)), some (.int (b : Int)), some (.int (n : Int)), p8', p9', p10, p11] [some ((acc ++ if okR (zm q) a b kk n then [(kk, n)] else []).map emV)] := by
  have e := List.map_inj_left.mp (rAB (call := call) (S := [some (acc.map emV)]) p0 p1 (some (cv q)) (some (.box 0)) (some (.int (a : Int))) (some (.int (b : Int))) p8 p9 p10 p11) (kk * 6 + (n - 1)) (List.mem_range.mpr (by omega))
  rw [show (kk * 6 + (n - 1)) / 6 = kk by omega, show (kk * 6 + (n - 1)) % 6 + 1 = n by omega] at e
  refine ⟨some (runV (runN kk n)), some (.lst (iv (insN kk n))), ?_⟩
  rw [seq2 e]
  have L := lcRunR (call := call) (q := q) (a := a) (b := b) (kk := kk) (n := n) (S := [some (acc.map emV)]) (p0 := p0) (p1 := p1) (p3 := some (.box 0)) (p9 := some (.lst (iv (insN kk n)))) (p10 := p10) (p11 := p11) (l := runN kk n) runN_lt (by
    rw [runN_len]
    exact h6) (v := runV (runN kk n)) (fun _ => rfl) rfl
  have eq := fun S => eq_nil (S := S) (iv_shp ((runN kk n).filter fun x => !bitOf (zm q) x))
  rw [all_empty] at eq
  have i1 : ∀ S, cmpop .nin (.int (a : Int)) (.lst (iv (insN kk n))) S = some (!has (insN kk n) a) := fun S => by
    show oneg (isIn S _ _) = _
    rw [has_in]
    rfl
  have i2 : ∀ S, cmpop .nin (.int (b : Int)) (.lst (iv (insN kk n))) S = some (!has (insN kk n) b) := fun S => by
    show oneg (isIn S _ _) = _
    rw [has_in]
    rfl
  have kk0 : ∀ S, mk false [] S = .ok (.lst []) S := fun _ => rfl
  have l6 : ∀ S, cmpop .lt (.int (n : Int)) (.int 6) S = some (Nat.blt n 6) := fun _ => rfl
  have ek : ∀ S, cmpop .eq (.int (kk : Int)) (.int (a : Int)) S = some (Nat.beq kk a) := fun _ => by
    show eqD (.int (kk : Int)) (.int (a : Int)) = _
    rw [eqD_int, ne_six kk hk a ha]
  have eb : ∀ S, cmpop .eq (.int (a : Int)) (.int (b : Int)) S = some (Nat.beq a b) := fun _ => by
    show eqD (.int (a : Int)) (.int (b : Int)) = _
    rw [eqD_int, ne_six a ha b hb]
  have gl : getB [some (acc.map emV)] 0 = some (acc.map emV) := rfl
  have ln : Nat.blt (acc.map emV).length lim = true := Nat.ble_eq_true_of_le (by
    rw [List.length_map]
    show acc.length + 1 ≤ 1000000
    omega)
  have s0 : ∀ l : List PV, ([some (acc.map emV)] : Sto).set 0 (some l) = [some l] := fun _ => rfl
  have sn : acc.map emV ++ [runV (runN kk n)] = (acc ++ [(kk, n)]).map emV := by
    rw [List.map_append]
    rfl
  have nl : acc ++ [] = acc := List.append_nil acc
  unfold okR okG
  cases z1 : (runN kk n).all (bitOf (zm q)) with
  | false =>
    rw [z1] at eq
    simp only [rC, sx, onR, onO, F.then, ev, ↓L, getV, R.bind, withL, withO, kk0, eq, Bool.false_and, truth, if_false, Bool.false_eq_true, nl]
  | true =>
    rw [z1] at eq
    cases z2 : has (insN kk n) a with
    | true =>
      rw [z2] at i1
      simp only [rC, sx, onR, onO, F.then, ev, ↓L, getV, R.bind, withL, withO, kk0, eq, Bool.not_true, Bool.true_or, Bool.and_false, Bool.false_and, truth, if_true, if_false, Bool.false_eq_true, List.getElem?_cons_zero, List.getElem?_cons_succ, i1, nl]
    | false =>
      rw [z2] at i1
      cases z3 : has (insN kk n) b with
      | true =>
        rw [z3] at i2
        simp only [rC, sx, onR, onO, F.then, ev, ↓L, getV, R.bind, withL, withO, kk0, eq, Bool.not_true, Bool.not_false, Bool.or_true, Bool.and_false, Bool.false_and, truth, if_true, if_false, Bool.false_eq_true, List.getElem?_cons_zero, List.getElem?_cons_succ, i1, i2, nl]
      | false =>
        rw [z3] at i2
        cases z4 : Nat.blt n 6 with
        | true =>
          rw [z4] at l6
          simp only [rC, sx, onR, onO, F.then, ev, ↓L, getV, R.bind, withL, withO, kk0, eq, Bool.not_false, Bool.or_false, Bool.true_or, Bool.and_true, truth, if_true, if_false, Bool.false_eq_true, List.getElem?_cons_zero, List.getElem?_cons_succ, i1, i2, l6, gl, ln, s0, sn]
        | false =>
          rw [z4] at l6
          cases z5 : Nat.beq kk a with
          | false =>
            rw [z5] at ek
            simp only [rC, sx, onR, onO, F.then, ev, ↓L, getV, R.bind, withL, withO, kk0, eq, Bool.not_false, Bool.or_false, Bool.false_or, Bool.false_and, Bool.and_false, Bool.and_true, truth, if_true, if_false, Bool.false_eq_true, List.getElem?_cons_zero, List.getElem?_cons_succ, i1, i2, l6, ek, nl]
          | true =>
            rw [z5] at ek
            cases z6 : Nat.beq a b with
            | false =>
              rw [z6] at eb
              simp only [rC, sx, onR, onO, F.then, ev, ↓L, getV, R.bind, withL, withO, kk0, eq, Bool.not_false, Bool.or_false, Bool.false_or, Bool.false_and, Bool.and_false, Bool.and_true, truth, if_true, if_false, Bool.false_eq_true, List.getElem?_cons_zero, List.getElem?_cons_succ, i1, i2, l6, ek, eb, nl]
            | true =>
              rw [z6] at eb
              simp only [rC, sx, onR, onO, F.then, ev, ↓L, getV, R.bind, withL, withO, kk0, eq, Bool.not_false, Bool.or_false, Bool.false_or, Bool.or_true, Bool.and_true, truth, if_true, if_false, Bool.false_eq_true, List.getElem?_cons_zero, List.getElem?_cons_succ, i1, i2, l6, ek, eb, gl, ln, s0, sn]
def rowF (m a b k : Nat) (ns : List Nat) : List (Nat × Nat) := (ns.filter fun n => okR m a b k n).map fun n => (k, n)
theorem rowF_cons (m a b k n : Nat) (ns : List Nat) : rowF m a b k (n :: ns) = (if okR m a b k n then [(k, n)] else []) ++ rowF m a b k ns := by
  unfold rowF
  rw [List.filter_cons]
  cases okR m a b k n <;> rfl
theorem rowF_len (m a b k : Nat) (ns : List Nat) : (rowF m a b k ns).length ≤ ns.length := by
  unfold rowF
  rw [List.length_map]
  exact List.length_filter_le _ _
theorem run_row (hk : kk < 6) (ha : a < 6) (hb : b < 6) {all : List PV} : ∀ {ns : List Nat} {acc : List (Nat × Nat)} {p7 p8 p9 : Option PV}, (∀ n ∈ ns, 0 < n ∧ n ≤ 6) → acc.length + ns.length ≤ 100 → ∃ p7' p8' p9',
    forLoop none all (fun x ρ1 S2 => onO (store S2 (.nm 7) x ρ1) fun ρ2 => sx call t.cons t.isx 0 3000 (.seq rA (.seq rB (.seq rC .nil))) ρ2 S2) (iv ns) [p0, p1, some (cv q), some (.box 0), some (.int (kk : Int)), some (.int (a : Int)), some (.int (b : Int)), p7, p8, p9, p10, p11] [some (acc.map emV)] = .nx [p0, p1, some (cv q), some (.box 0), some (.int (kk : Int)), some (.int (a : Int)), some (.int (b : Int)), p7', p8', p9', p10, p11] [some ((acc ++ rowF (zm q) a b kk ns).map emV)]
  | [], acc, p7, p8, p9, _, _ => ⟨p7, p8, p9, by
    show F.nx _ _ = F.nx _ [some ((acc ++ []).map emV)]
    rw [List.append_nil]⟩
  | n :: ns, acc, p7, p8, p9, h, hn => by
    obtain ⟨h1, h6⟩ := h n List.mem_cons_self
    have hn : acc.length + (ns.length + 1) ≤ 100 := hn
    obtain ⟨p8a, p9a, e⟩ := run_turn (call := call) (q := q) (a := a) (b := b) (kk := kk) (n := n) (p0 := p0) (p1 := p1) (p8 := p8) (p9 := p9) (p10 := p10) (p11 := p11) hk ha hb h1 h6 (acc := acc) (by omega)
    obtain ⟨p7', p8', p9', e2⟩ := run_row hk ha hb (all := all) (ns := ns) (acc := acc ++ if okR (zm q) a b kk n then [(kk, n)] else []) (p7 := some (.int (n : Int))) (p8 := p8a) (p9 := p9a) (fun x hx => h x (List.mem_cons_of_mem _ hx)) (by
      cases okR (zm q) a b kk n with
      | true =>
        rw [if_pos rfl, List.length_append, List.length_cons, List.length_nil]
        omega
      | false =>
        rw [if_neg (fun h => nomatch h), List.append_nil]
        omega)
    refine ⟨p7', p8', p9', ?_⟩
    have st : ∀ S, store S (.nm 7) (.int (n : Int)) [p0, p1, some (cv q), some (.box 0), some (.int (kk : Int)), some (.int (a : Int)), some (.int (b : Int)), p7, p8, p9, p10, p11] = some [p0, p1, some (cv q), some (.box 0), some (.int (kk : Int)), some (.int (a : Int)), some (.int (b : Int)), some (.int (n : Int)), p8, p9, p10, p11] := fun _ => rfl
    show forLoop none all _ (.int (n : Int) :: iv ns) _ _ = _
    rw [forL_cons]
    · rw [rowF_cons, ← List.append_assoc]
      exact e2
    · rw [st]
      exact e
theorem run_rows (ha : a < 6) (hb : b < 6) {all : List PV} : ∀ {ks : List Nat} {acc : List (Nat × Nat)} {p4 p7 p8 p9 : Option PV}, (∀ n ∈ ks, n < 6) → acc.length + 6 * ks.length ≤ 90 → ∃ p4' p7' p8' p9',
    forLoop none all (fun x ρ1 S2 => onO (store S2 (.nm 4) x ρ1) fun ρ2 => sx call t.cons t.isx 0 3000 (.seq (.for (.nm 7) (.irng (.cons (.int 1) (.cons (.int 7) .nil))) (.seq rA (.seq rB (.seq rC .nil)))) .nil) ρ2 S2) (iv ks) [p0, p1, some (cv q), some (.box 0), p4, some (.int (a : Int)), some (.int (b : Int)), p7, p8, p9, p10, p11] [some (acc.map emV)] = .nx [p0, p1, some (cv q), some (.box 0), p4', some (.int (a : Int)), some (.int (b : Int)), p7', p8', p9', p10, p11] [some ((acc ++ ks.flatMap fun k => rowF (zm q) a b k n16).map emV)]
  | [], acc, p4, p7, p8, p9, _, _ => ⟨p4, p7, p8, p9, by
    show F.nx _ _ = F.nx _ [some ((acc ++ []).map emV)]
    rw [List.append_nil]⟩
  | n :: ns, acc, p4, p7, p8, p9, h, hn => by
    have hn : acc.length + 6 * (ns.length + 1) ≤ 90 := hn
    have l6 : (rowF (zm q) a b n n16).length ≤ 6 := rowF_len _ _ _ _ _
    obtain ⟨p7a, p8a, p9a, e⟩ := run_row (call := call) (q := q) (a := a) (b := b) (kk := n) (p0 := p0) (p1 := p1) (p10 := p10) (p11 := p11) (all := iv n16) (h n List.mem_cons_self) ha hb (ns := n16) (acc := acc) (p7 := p7) (p8 := p8) (p9 := p9) (by decide) (by
      show acc.length + 6 ≤ 100
      omega)
    obtain ⟨p4', p7', p8', p9', e2⟩ := run_rows ha hb (all := all) (ks := ns) (acc := acc ++ rowF (zm q) a b n n16) (p4 := some (.int (n : Int))) (p7 := p7a) (p8 := p8a) (p9 := p9a) (fun x hx => h x (List.mem_cons_of_mem _ hx)) (by
      rw [List.length_append]
      omega)
    refine ⟨p4', p7', p8', p9', ?_⟩
    have st : ∀ S, store S (.nm 4) (.int (n : Int)) [p0, p1, some (cv q), some (.box 0), p4, some (.int (a : Int)), some (.int (b : Int)), p7, p8, p9, p10, p11] = some [p0, p1, some (cv q), some (.box 0), some (.int (n : Int)), some (.int (a : Int)), some (.int (b : Int)), p7, p8, p9, p10, p11] := fun _ => rfl
    show forLoop none all _ (.int (n : Int) :: iv ns) _ _ = _
    rw [forL_cons]
    · rw [List.flatMap_cons, ← List.append_assoc]
      exact e2
    · rw [st]
      have B : sx call t.cons t.isx 0 3000 (.for (.nm 7) (.irng (.cons (.int 1) (.cons (.int 7) .nil))) (.seq rA (.seq rB (.seq rC .nil)))) [p0, p1, some (cv q), some (.box 0), some (.int (n : Int)), some (.int (a : Int)), some (.int (b : Int)), p7, p8, p9, p10, p11] [some (acc.map emV)] = .nx [p0, p1, some (cv q), some (.box 0), some (.int (n : Int)), some (.int (a : Int)), some (.int (b : Int)), p7a, p8a, p9a, p10, p11] [some ((acc ++ rowF (zm q) a b n n16).map emV)] := e
      show sx call t.cons t.isx 0 3000 (.seq _ .nil) _ _ = _
      rw [seq_nx B]
      rfl
end
def Pr (p : Nat × Nat) : Prop := p.1 < 6 ∧ 0 < p.2 ∧ p.2 ≤ 6
theorem fnd_pr {m a b : Nat} : ∀ p ∈ fnd m a b, Pr p := fun p hp => by
  obtain ⟨k, hk, h⟩ := List.mem_flatMap.mp hp
  obtain ⟨n, hn, rfl⟩ := List.mem_map.mp h
  have h16 : ∀ n ∈ n16, 0 < n ∧ n ≤ 6 := by decide
  exact ⟨List.mem_range.mp hk, h16 n (List.mem_filter.mp hn).1⟩
theorem flat_len {α β : Type} (f : α → List β) (c : Nat) (h : ∀ x, (f x).length ≤ c) : ∀ l : List α, (l.flatMap f).length ≤ c * l.length
  | [] => Nat.zero_le _
  | x :: l => by
    have q := flat_len f c h l
    have q2 := h x
    rw [List.flatMap_cons, List.length_append, List.length_cons, Nat.mul_succ]
    omega
theorem fnd_len (m a b : Nat) : (fnd m a b).length ≤ 36 := flat_len _ 6 (fun k => rowF_len m a b k n16) (List.range 6)
theorem tlie0 (k : Nat) : ((List.range 216).map fun j => okv (runF t.tf t.cons t.isx 3000 (k + 1) 22 [emV (0, j / 36 + 1), emV (j % 36 / 6, j % 6 + 1)] [])) = (List.range 216).map fun j => some (.bl (liesN (emN (0, j / 36 + 1)) (emN (j % 36 / 6, j % 6 + 1)))) := by kernel_rfl
theorem tlie1 (k : Nat) : ((List.range 216).map fun j => okv (runF t.tf t.cons t.isx 3000 (k + 1) 22 [emV (1, j / 36 + 1), emV (j % 36 / 6, j % 6 + 1)] [])) = (List.range 216).map fun j => some (.bl (liesN (emN (1, j / 36 + 1)) (emN (j % 36 / 6, j % 6 + 1)))) := by kernel_rfl
theorem tlie2 (k : Nat) : ((List.range 216).map fun j => okv (runF t.tf t.cons t.isx 3000 (k + 1) 22 [emV (2, j / 36 + 1), emV (j % 36 / 6, j % 6 + 1)] [])) = (List.range 216).map fun j => some (.bl (liesN (emN (2, j / 36 + 1)) (emN (j % 36 / 6, j % 6 + 1)))) := by kernel_rfl
theorem tlie3 (k : Nat) : ((List.range 216).map fun j => okv (runF t.tf t.cons t.isx 3000 (k + 1) 22 [emV (3, j / 36 + 1), emV (j % 36 / 6, j % 6 + 1)] [])) = (List.range 216).map fun j => some (.bl (liesN (emN (3, j / 36 + 1)) (emN (j % 36 / 6, j % 6 + 1)))) := by kernel_rfl
theorem tlie4 (k : Nat) : ((List.range 216).map fun j => okv (runF t.tf t.cons t.isx 3000 (k + 1) 22 [emV (4, j / 36 + 1), emV (j % 36 / 6, j % 6 + 1)] [])) = (List.range 216).map fun j => some (.bl (liesN (emN (4, j / 36 + 1)) (emN (j % 36 / 6, j % 6 + 1)))) := by kernel_rfl
theorem tlie5 (k : Nat) : ((List.range 216).map fun j => okv (runF t.tf t.cons t.isx 3000 (k + 1) 22 [emV (5, j / 36 + 1), emV (j % 36 / 6, j % 6 + 1)] [])) = (List.range 216).map fun j => some (.bl (liesN (emN (5, j / 36 + 1)) (emN (j % 36 / 6, j % 6 + 1)))) := by kernel_rfl
theorem tlies (k p : Nat) (h : p < 6) (j : Nat) (hj : j < 216) : okv (runF t.tf t.cons t.isx 3000 (k + 1) 22 [emV (p, j / 36 + 1), emV (j % 36 / 6, j % 6 + 1)] []) = some (.bl (liesN (emN (p, j / 36 + 1)) (emN (j % 36 / 6, j % 6 + 1)))) := by
  rcases six h with e | e | e | e | e | e <;> subst e
  · exact List.map_inj_left.mp (tlie0 k) j (List.mem_range.mpr hj)
  · exact List.map_inj_left.mp (tlie1 k) j (List.mem_range.mpr hj)
  · exact List.map_inj_left.mp (tlie2 k) j (List.mem_range.mpr hj)
  · exact List.map_inj_left.mp (tlie3 k) j (List.mem_range.mpr hj)
  · exact List.map_inj_left.mp (tlie4 k) j (List.mem_range.mpr hj)
  · exact List.map_inj_left.mp (tlie5 k) j (List.mem_range.mpr hj)
theorem em_nob (p : Nat × Nat) : (emV p).nob = true := shps_nob (iv_shp (emN p))
theorem liesS {k : Nat} {p r : Nat × Nat} {S : Sto} (hp : Pr p) (hr : Pr r) : invoke (run t.tf t.cons t.isx 3000 (k + 1) 22) [emV p, emV r] S = .ok (.bl (liesN (emN p) (emN r))) S := by
  obtain ⟨p1, p2⟩ := p
  obtain ⟨r1, r2⟩ := r
  obtain ⟨a1, a2, a3⟩ := hp
  obtain ⟨b1, b2, b3⟩ := hr
  have a1 : p1 < 6 := a1
  have a2 : 0 < p2 := a2
  have a3 : p2 ≤ 6 := a3
  have b1 : r1 < 6 := b1
  have b2 : 0 < r2 := b2
  have b3 : r2 ≤ 6 := b3
  have q := tlies k p1 a1 ((p2 - 1) * 36 + (r1 * 6 + (r2 - 1))) (by omega)
  rw [show ((p2 - 1) * 36 + (r1 * 6 + (r2 - 1))) / 36 + 1 = p2 by omega, show ((p2 - 1) * 36 + (r1 * 6 + (r2 - 1))) % 36 / 6 = r1 by omega, show ((p2 - 1) * 36 + (r1 * 6 + (r2 - 1))) % 6 + 1 = r2 by omega] at q
  obtain ⟨S1, e⟩ := okv_ok q
  exact inv0 (by simp only [PV.nobs, em_nob, Bool.and_self]) rfl (toR e)
theorem ones_empty (c : Nat × Nat → Bool) : ∀ l : List (Nat × Nat), ((l.filter c).map fun _ => PV.int 1).isEmpty = !(l.any c)
  | [] => rfl
  | x :: l => by
    rw [List.filter_cons, List.any_cons]
    cases e : c x with
    | true => rfl
    | false =>
      rw [if_neg (fun h => nomatch h), Bool.false_or]
      exact ones_empty c l
theorem ones_shp (c : Nat × Nat → Bool) (l : List (Nat × Nat)) : PV.shps 0 ((l.filter c).map fun _ => PV.int 1) = true := shps_mem.mpr fun x hx => by
  obtain ⟨p, _, rfl⟩ := List.mem_map.mp hx
  rfl
theorem lawRuns {k a b : Nat} {q : Cn} {S : Sto} (ha : a < 6) (hb : b < 6) : invoke (run t.tf t.cons t.isx 3000 (k + 2) 21) [poseC a, poseC b, cv q] S = .ok (.tup ((strM (zm q) a b).map runV)) S := by
  obtain ⟨p4, p7, p8, p9, e⟩ := run_rows (call := run t.tf t.cons t.isx 3000 (k + 1)) (q := q) (a := a) (b := b) (p0 := some (poseC a)) (p1 := some (poseC b)) (p10 := none) (p11 := none) ha hb (all := iv (List.range 6)) (ks := List.range 6) (acc := []) (p4 := none) (p7 := none) (p8 := none) (p9 := none) (by decide) (by decide)
  rw [List.nil_append] at e
  have Al := all_of (zm_lt q) ha hb
  refine inv0 (S1 := [some ((fnd (zm q) a b).map emV)]) (by simp only [PV.nobs, pose_nob ha, pose_nob hb, cv_nob, Bool.and_self]) (shps_nob (n := 1) (runs_shp _)) ?_
  show run t.tf t.cons t.isx 3000 (k + 1 + 1) 21 [poseC a, poseC b, cv q] [] = _
  rw [run_fn at21 rfl]
  show endR (sx (run t.tf t.cons t.isx 3000 (k + 1)) t.cons t.isx 0 3000 b21 [some (poseC a), some (poseC b), some (cv q), none, none, none, none, none, none, none, none, none] []) = _
  have po := fun S => poses_ (k := k) (S := S)
  have x1 := fun S => ix_ring S ha
  have x2 := fun S => ix_ring S hb
  have sq : ∀ S, seqOf S (.lst ringC) = some ringC := fun S => rfl
  have A : sx (run t.tf t.cons t.isx 3000 (k + 1)) t.cons t.isx 0 3000 (.asg (.tup (.cons (.nm 5) (.cons (.nm 6) .nil))) (.tup (.cons (.mth .index false (.call 19 .nil) (.cons (.var 0) .nil)) (.cons (.mth .index false (.call 19 .nil) (.cons (.var 1) .nil)) .nil)))) [some (poseC a), some (poseC b), some (cv q), none, none, none, none, none, none, none, none, none] [] = .nx [some (poseC a), some (poseC b), some (cv q), none, none, some (.int (a : Int)), some (.int (b : Int)), none, none, none, none, none] [] := by
    have st : ∀ S x y, store S (.tup (.cons (.nm 5) (.cons (.nm 6) .nil))) (.tup [x, y]) [some (poseC a), some (poseC b), some (cv q), none, none, none, none, none, none, none, none, none] = some [some (poseC a), some (poseC b), some (cv q), none, none, some x, some y, none, none, none, none, none] := fun _ _ _ => rfl
    simp only [sx, onR, onO, F.then, ev, getV, R.bind, withL, withO, List.map_cons, List.map_nil, List.cons_append, List.nil_append, List.replicate, List.getElem?_cons_zero, List.getElem?_cons_succ, List.length_cons, List.length_nil, Nat.reduceAdd, Nat.reduceSub, endR, po, sq, x1, x2, m2, st]
  have B : sx (run t.tf t.cons t.isx 3000 (k + 1)) t.cons t.isx 0 3000 (.asg (.nm 3) (.lst true .nil)) [some (poseC a), some (poseC b), some (cv q), none, none, some (.int (a : Int)), some (.int (b : Int)), none, none, none, none, none] [] = .nx [some (poseC a), some (poseC b), some (cv q), some (.box 0), none, some (.int (a : Int)), some (.int (b : Int)), none, none, none, none, none] [some []] := rfl
  have C : sx (run t.tf t.cons t.isx 3000 (k + 1)) t.cons t.isx 0 3000 (.for (.nm 4) (.irng (.cons (.int 6) .nil)) (.seq (.for (.nm 7) (.irng (.cons (.int 1) (.cons (.int 7) .nil))) (.seq rA (.seq rB (.seq rC .nil)))) .nil)) [some (poseC a), some (poseC b), some (cv q), some (.box 0), none, some (.int (a : Int)), some (.int (b : Int)), none, none, none, none, none] [some []] = .nx [some (poseC a), some (poseC b), some (cv q), some (.box 0), p4, some (.int (a : Int)), some (.int (b : Int)), p7, p8, p9, none, none] [some ((fnd (zm q) a b).map emV)] := e
  have D : ev (run t.tf t.cons t.isx 3000 (k + 1)) t.cons t.isx (.lc false [10] (.cl (.nm 10) (.var 3) (.cmp .eq (.lc false [11] (.cl (.nm 11) (.var 3) (.and (.cmp .gt (.blt .len false (.cons (.var 11) .nil)) (.blt .len false (.cons (.var 10) .nil))) (.call 22 (.cons (.var 10) (.cons (.var 11) .nil)))) (.one (.int 1)))) (.lst false .nil)) (.one (.var 10)))) [some (poseC a), some (poseC b), some (cv q), some (.box 0), p4, some (.int (a : Int)), some (.int (b : Int)), p7, p8, p9, none, none] [some ((fnd (zm q) a b).map emV)] = .ok (.lst (((lawF (zm q) a b).map emN).map runV)) [some ((fnd (zm q) a b).map emV)] := by
    rw [ev_lcB (emb := emV) (n := 0) (l := fnd (zm q) a b) (c := fun p => !(inAny (fnd (zm q) a b) p)) (g := emV) rfl rfl (sames_em _) (show 10 < 12 by simp) (fun p hp => by
      have I : ev (run t.tf t.cons t.isx 3000 (k + 1)) t.cons t.isx (.lc false [11] (.cl (.nm 11) (.var 3) (.and (.cmp .gt (.blt .len false (.cons (.var 11) .nil)) (.blt .len false (.cons (.var 10) .nil))) (.call 22 (.cons (.var 10) (.cons (.var 11) .nil)))) (.one (.int 1)))) [some (poseC a), some (poseC b), some (cv q), some (.box 0), p4, some (.int (a : Int)), some (.int (b : Int)), p7, p8, p9, some (emV p), none] [some ((fnd (zm q) a b).map emV)] = .ok (.lst (((fnd (zm q) a b).filter fun r => Nat.blt p.2 r.2 && liesN (emN p) (emN r)).map fun _ => .int 1)) [some ((fnd (zm q) a b).map emV)] := by
        rw [ev_lcB (emb := emV) (n := 0) (l := fnd (zm q) a b) (c := fun r => Nat.blt p.2 r.2 && liesN (emN p) (emN r)) (g := fun _ => .int 1) rfl rfl (sames_em _) (show 11 < 12 by simp) (fun r hr => by
          have li := fun S => liesS (k := k) (S := S) (fnd_pr p hp) (fnd_pr r hr)
          have le : ∀ (p : Nat × Nat) S, blt .len false [emV p] S = .ok (.int (p.2 : Int)) S := fun p S => by
            unfold emV runV emN
            rw [blt_len, iv_len, runN_len]
          have gt : ∀ S, cmpop .gt (.int (r.2 : Int)) (.int (p.2 : Int)) S = some (Nat.blt p.2 r.2) := fun _ => rfl
          cases z : Nat.blt p.2 r.2 with
          | true =>
            rw [z] at gt
            simp only [ev, getV, R.bind, withL, withO, wipes, List.set, List.getElem?_cons_zero, List.getElem?_cons_succ, le, gt, truth, if_true, li, Bool.true_and]
          | false =>
            rw [z] at gt
            simp only [ev, getV, R.bind, withL, withO, wipes, List.set, List.getElem?_cons_zero, List.getElem?_cons_succ, le, gt, truth, if_false, Bool.false_eq_true, Bool.false_and]) (fun r hr _ => rfl)]
        exact mk1k (by
          rw [List.length_map]
          have h1 := List.length_filter_le (fun r => Nat.blt p.2 r.2 && liesN (emN p) (emN r)) (fnd (zm q) a b)
          have h2 := fnd_len (zm q) a b
          omega)
      have eq := fun S => eq_nil (S := S) (ones_shp (fun r => Nat.blt p.2 r.2 && liesN (emN p) (emN r)) (fnd (zm q) a b))
      rw [ones_empty] at eq
      have kk0 : ∀ S, mk false [] S = .ok (.lst []) S := fun _ => rfl
      show ev _ _ _ (.cmp .eq (.lc false [11] (.cl (.nm 11) (.var 3) (.and (.cmp .gt (.blt .len false (.cons (.var 11) .nil)) (.blt .len false (.cons (.var 10) .nil))) (.call 22 (.cons (.var 10) (.cons (.var 11) .nil)))) (.one (.int 1)))) (.lst false .nil)) [some (poseC a), some (poseC b), some (cv q), some (.box 0), p4, some (.int (a : Int)), some (.int (b : Int)), p7, p8, p9, some (emV p), none] _ = _
      simp only [ev, ↓I, R.bind, withL, withO, kk0, eq]
      rfl) (fun p hp _ => rfl)]
    rw [show ((fnd (zm q) a b).filter fun p => !(inAny (fnd (zm q) a b) p)).map emV = ((lawF (zm q) a b).map emN).map runV by
      unfold lawF
      rw [List.map_map]
      rfl]
    exact mk1k (by
      rw [List.length_map, List.length_map]
      have h1 := List.length_filter_le (fun p => !(inAny (fnd (zm q) a b) p)) (fnd (zm q) a b)
      have h2 := fnd_len (zm q) a b
      show ((fnd (zm q) a b).filter fun p => !(inAny (fnd (zm q) a b) p)).length ≤ 1000
      omega)
  have so := fun S => sorts Al.s2 S
  have mt : ∀ S, mkT ((strM (zm q) a b).map runV) S = .ok (.tup ((strM (zm q) a b).map runV)) S := fun S => mkT1k (by
    rw [List.length_map]
    have := Al.l2
    omega)
  unfold rA rB rC at C
  unfold b21
  rw [seq_nx A, seq_nx B, seq_nx C]
  simp only [sx, ev, ↓D, onR, F.then, R.bind, withL, so, blt_tup, mt, endR]
end Lw
set_option maxHeartbeats 0
namespace Lw
open Rn PySem
theorem at14 : t.tf 14 = some ⟨2, 6, b14⟩ := rfl
theorem at16 : t.tf 16 = some ⟨2, 2, b16⟩ := rfl
theorem at24 : t.tf 24 = some ⟨1, 10, b24⟩ := rfl
def w0 : Sm := (.asg (.nm 5) (.blt .tuple false (.cons (.lc false [8] (.cl (.nm 8) (.irng (.cons (.int 6) .nil)) (.bl true) (.one (.ite (.cmp .gt (.call 14 (.cons (.var 0) (.cons (.int 3) .nil))) (.int 0)) (.int 0) (.bin .sub false (.call 14 (.cons (.var 0) (.cons (.bin .add false (.bin .mul false (.int 2) (.var 4)) (.int 1)) .nil))) (.var 4)))))) .nil)))
def w1 : Sm := (.asg (.nm 6) (.call 21 (.cons (.var 2) (.cons (.var 3) (.cons (.var 5) .nil)))))
def w2 : Sm := (.asg (.nm 7) (.lst false (.cons (.calk 8 [0] (.cons (.call 17 (.cons (.var 5) .nil)) .nil)) (.cons (.calk 11 [1, 2, 0] (.cons (.call 17 (.cons (.var 5) .nil)) (.cons (.var 2) (.cons (.call 17 (.cons (.var 3) .nil)) .nil)))) (.cons (.calk 12 [1, 0, 2] (.cons (.var 3) (.cons (.call 17 (.cons (.var 2) .nil)) (.cons (.var 5) .nil)))) .nil)))))
def w3 : Sm := (.ife (.not (.call 18 (.cons (.var 7) (.cons (.lst false (.cons (.blt .tuple false (.cons (.lc false [8] (.cl (.nm 8) (.irng (.cons (.int 6) .nil)) (.cmp .eq (.idx (.var 5) (.var 8)) (.int 0)) (.one (.var 8)))) .nil)) (.cons (.var 6) (.cons (.call 20 (.cons (.var 2) (.cons (.var 3) (.cons (.var 5) .nil)))) .nil)))) .nil)))) (.seq (.ret (.bl false)) .nil) .nil)
def w4 : Sm := (.ife (.cmp .ne (.call 20 (.cons (.var 2) (.cons (.var 3) (.cons (.var 5) .nil)))) (.blt .max false (.cons (.bin .add false (.lc false [9] (.cl (.nm 9) (.var 6) (.bl true) (.one (.blt .len false (.cons (.var 9) .nil))))) (.lst false (.cons (.int 0) .nil))) .nil))) (.seq (.ret (.bl false)) .nil) .nil)
def w5 : Sm := (.asg (.nm 2) (.ite (.cmp .eq (.call 14 (.cons (.var 0) (.cons (.int 2) .nil))) (.int 0)) (.var 3) (.call 16 (.cons (.var 0) (.cons (.call 19 .nil) .nil)))))
def wBody : Sm := (.seq (.asg (.nm 5) (.blt .tuple false (.cons (.lc false [8] (.cl (.nm 8) (.irng (.cons (.int 6) .nil)) (.bl true) (.one (.ite (.cmp .gt (.call 14 (.cons (.var 0) (.cons (.int 3) .nil))) (.int 0)) (.int 0) (.bin .sub false (.call 14 (.cons (.var 0) (.cons (.bin .add false (.bin .mul false (.int 2) (.var 4)) (.int 1)) .nil))) (.var 4)))))) .nil))) (.seq (.asg (.nm 6) (.call 21 (.cons (.var 2) (.cons (.var 3) (.cons (.var 5) .nil))))) (.seq (.asg (.nm 7) (.lst false (.cons (.calk 8 [0] (.cons (.call 17 (.cons (.var 5) .nil)) .nil)) (.cons (.calk 11 [1, 2, 0] (.cons (.call 17 (.cons (.var 5) .nil)) (.cons (.var 2) (.cons (.call 17 (.cons (.var 3) .nil)) .nil)))) (.cons (.calk 12 [1, 0, 2] (.cons (.var 3) (.cons (.call 17 (.cons (.var 2) .nil)) (.cons (.var 5) .nil)))) .nil))))) (.seq (.ife (.not (.call 18 (.cons (.var 7) (.cons (.lst false (.cons (.blt .tuple false (.cons (.lc false [8] (.cl (.nm 8) (.irng (.cons (.int 6) .nil)) (.cmp .eq (.idx (.var 5) (.var 8)) (.int 0)) (.one (.var 8)))) .nil)) (.cons (.var 6) (.cons (.call 20 (.cons (.var 2) (.cons (.var 3) (.cons (.var 5) .nil)))) .nil)))) .nil)))) (.seq (.ret (.bl false)) .nil) .nil) (.seq (.ife (.cmp .ne (.call 20 (.cons (.var 2) (.cons (.var 3) (.cons (.var 5) .nil)))) (.blt .max false (.cons (.bin .add false (.lc false [9] (.cl (.nm 9) (.var 6) (.bl true) (.one (.blt .len false (.cons (.var 9) .nil))))) (.lst false (.cons (.int 0) .nil))) .nil))) (.seq (.ret (.bl false)) .nil) .nil) (.seq (.asg (.nm 2) (.ite (.cmp .eq (.call 14 (.cons (.var 0) (.cons (.int 2) .nil))) (.int 0)) (.var 3) (.call 16 (.cons (.var 0) (.cons (.call 19 .nil) .nil))))) .nil))))))
theorem wBody_eq : wBody = .seq w0 (.seq w1 (.seq w2 (.seq w3 (.seq w4 (.seq w5 .nil))))) := rfl
theorem law_eq : b24 = .seq (.asg (.tup (.cons (.nm 2) (.cons (.nm 3) (.cons (.nm 4) .nil)))) (.tup (.cons (.call 16 (.cons (.var 0) (.cons (.call 19 .nil) .nil))) (.cons (.call 16 (.cons (.var 0) (.cons (.call 19 .nil) .nil))) (.cons (.call 16 (.cons (.var 0) (.cons (.lst false (.cons (.int 2) (.cons (.int 2) (.cons (.bin .pow false (.int 10) (.int 12)) .nil)))) .nil))) .nil))))) (.seq (.for (.nm 1) (.irng (.cons (.int 4) .nil)) wBody) (.seq (.ret (.bl true)) .nil)) := rfl
theorem sameRuns {k : Nat} {l : List (List Nat)} {S : Sto} (hl : l.length ≤ 20) (h6 : ∀ r ∈ l, r.length ≤ 6) : invoke (run t.tf t.cons t.isx 3000 (k + 3) 18) [.tup (l.map runV), .tup (l.map runV)] S = .ok (.bl true) S := sameTup (k := k + 2) (shps_nob (n := 1) (runs_shp l)) (by
  rw [List.length_map]
  omega) fun x hx => by
  obtain ⟨r, hr, rfl⟩ := List.mem_map.mp hx
  exact sameTup (k := k + 1) (shps_nob (iv_shp r)) (by
    rw [iv_len]
    have := h6 r hr
    omega) fun x hx => by
    obtain ⟨i, _, rfl⟩ := List.mem_map.mp hx
    exact sameI
theorem sameFree {k : Nat} {m : Nat} (hm : m < 64) {S : Sto} : invoke (run t.tf t.cons t.isx 3000 (k + 2) 18) [.tup (frM m), .tup (frM m)] S = .ok (.bl true) S := sameTup (k := k + 1) (frM_len m hm).2 (frM_len m hm).1 fun x hx => by
  obtain ⟨i, _, h⟩ := List.mem_flatMap.mp hx
  cases e : bitOf m i with
  | true =>
    rw [e, if_pos rfl] at h
    rw [show x = _ from List.mem_singleton.mp h]
    exact sameI
  | false =>
    rw [e, if_neg (fun h => nomatch h)] at h
    cases h
theorem ints_len0 : ∀ l : List (List Nat), intsL (l.map (fun r => PV.int (r.length : Int)) ++ [.int 0]) = some (lenI l ++ [0])
  | [] => rfl
  | r :: l => by
    show (match intsL (l.map (fun r => PV.int (r.length : Int)) ++ [.int 0]) with
      | some l => some ((r.length : Int) :: l)
      | none => none) = _
    rw [ints_len0 l]
    rfl
theorem w0_ {a b : Nat} {h : Int} {p1 p5 p6 p7 : Option PV} {t0 t1 t2 n : Int} (hh : 0 < h ∧ h ≤ 1000000000000) (hD : Dr t0 t2 n) (hn : n < 500000000) : ∃ q u0 u2, sx (run t.tf t.cons t.isx 3000 39) t.cons t.isx 1 3000 w0 [some (.box 0), p1, some (poseC a), some (poseC b), some (.int h), p5, p6, p7, none, none] (Tn t0 t1 t2) = .nx [some (.box 0), p1, some (poseC a), some (poseC b), some (.int h), some (cv q), p6, p7, none, none] (Tn u0 t1 u2) ∧ Dr u0 u2 (n + 12) := by
  have ml : ∀ S, binop .mul false (.int 2) (.int h) S = .ok (.int (2 * h)) S := fun _ => rfl
  obtain ⟨ys, u0, u2, e, q1, q2, D⟩ := ev_lc_dr (cons := t.cons) (isx := t.isx) (call := run t.tf t.cons t.isx 3000 39) (P := fun y => ∃ i, y = .int i) (c := 2) (i := 8) (t1 := t1) (B := 990000000) (bx := false) (own := [8]) (it := .irng (.cons (.int 6) .nil)) (elt := (.ite (.cmp .gt (.call 14 (.cons (.var 0) (.cons (.int 3) .nil))) (.int 0)) (.int 0) (.bin .sub false (.call 14 (.cons (.var 0) (.cons (.bin .add false (.bin .mul false (.int 2) (.var 4)) (.int 1)) .nil))) (.var 4)))) (ρ := [some (.box 0), p1, some (poseC a), some (poseC b), some (.int h), p5, p6, p7, none, none]) (l := range1 0 6) (fun S => by
    simp only [ev, R.bind, withL, withO, rng6]) (show 8 < 10 by decide) (fun x hx t0 t2 n hD hn => by
    obtain ⟨d, u0, u2, e, hd, D⟩ := take1 (cons := t.cons) (isx := t.isx) (wf := 3000) (k := 38) (t1 := t1) (b := 3) at14 (by decide) (by decide) hD (by omega)
    have gt : ∀ S, cmpop .gt (.int (d : Int)) (.int 0) S = some (Nat.blt 0 d) := fun _ => rfl
    cases z : Nat.blt 0 d with
    | true =>
      rw [z] at gt
      refine ⟨.int 0, u0, u2, ?_, D.up (by omega), _, rfl⟩
      simp only [ev, getV, R.bind, withL, withO, wipes, List.set, List.getElem?_cons_zero, List.getElem?_cons_succ, e, gt, truth, if_true]
    | false =>
      rw [z] at gt
      obtain ⟨c, v0, v2, e2, hc, D2⟩ := take1 (cons := t.cons) (isx := t.isx) (wf := 3000) (k := 38) (t1 := t1) (b := 2 * h + 1) at14 (by omega) (by omega) D (by omega)
      refine ⟨.int ((c : Int) - h), v0, v2, ?_, D2.up (by omega), _, rfl⟩
      simp only [ev, getV, R.bind, withL, withO, wipes, List.set, List.getElem?_cons_zero, List.getElem?_cons_succ, e, gt, truth, if_false, Bool.false_eq_true, ml]
      simp only [binop, addI, e2]) hD (by
      rw [range1_len]
      show n + ((2 * 6 : Nat) : Int) < _
      omega)
  rw [range1_len] at q1 D
  obtain ⟨q, rfl⟩ := six_of q1 q2
  have D : Dr u0 u2 (n + ((2 * 6 : Nat) : Int)) := D
  refine ⟨q, u0, u2, ?_, D.up (by omega)⟩
  rw [show mk false (qL q) (Tn u0 t1 u2) = .ok (.lst (qL q)) (Tn u0 t1 u2) from rfl] at e
  have T : ev (run t.tf t.cons t.isx 3000 39) t.cons t.isx (.blt .tuple false (.cons (.lc false [8] (.cl (.nm 8) (.irng (.cons (.int 6) .nil)) (.bl true) (.one (.ite (.cmp .gt (.call 14 (.cons (.var 0) (.cons (.int 3) .nil))) (.int 0)) (.int 0) (.bin .sub false (.call 14 (.cons (.var 0) (.cons (.bin .add false (.bin .mul false (.int 2) (.var 4)) (.int 1)) .nil))) (.var 4)))))) .nil)) [some (.box 0), p1, some (poseC a), some (poseC b), some (.int h), p5, p6, p7, none, none] (Tn t0 t1 t2) = .ok (cv q) (Tn u0 t1 u2) := by
    rw [show ∀ x ρ S, ev (run t.tf t.cons t.isx 3000 39) t.cons t.isx (.blt .tuple false (.cons x .nil)) ρ S = (R.bind (R.bind (ev (run t.tf t.cons t.isx 3000 39) t.cons t.isx x ρ S) fun v S1 => R.bind (.ok (.lst []) S1) fun r S2 => withL r fun l => .ok (.lst (v :: l)) S2) fun r S1 => withL r fun vs => blt .tuple false vs S1) from fun _ _ _ => rfl]
    rw [e]
    rfl
  exact asg_nx (i := 5) T rfl
section
variable {a b : Nat} {h : Int} {q : Cn} {p1 p6 p7 : Option PV} {S : Sto}
theorem w1_ (ha : a < 6) (hb : b < 6) : sx (run t.tf t.cons t.isx 3000 39) t.cons t.isx 1 3000 w1 [some (.box 0), p1, some (poseC a), some (poseC b), some (.int h), some (cv q), p6, p7, none, none] S = .nx [some (.box 0), p1, some (poseC a), some (poseC b), some (.int h), some (cv q), some (.tup ((strM (zm q) a b).map runV)), p7, none, none] S := by
  have e := fun S => lawRuns (k := 37) (q := q) (S := S) ha hb
  have st : ∀ S v, store S (.nm 6) v [some (.box 0), p1, some (poseC a), some (poseC b), some (.int h), some (cv q), p6, p7, none, none] = some [some (.box 0), p1, some (poseC a), some (poseC b), some (.int h), some (cv q), some (v), p7, none, none] := fun _ _ => rfl
  simp only [w1, sx, onR, onO, F.then, ev, getV, R.bind, withL, withO, List.map_cons, List.map_nil, List.cons_append, List.nil_append, List.replicate, List.getElem?_cons_zero, List.getElem?_cons_succ, List.length_cons, List.length_nil, Nat.reduceAdd, Nat.reduceSub, endR, e, st]
theorem w2_ (ha : a < 6) (hb : b < 6) : sx (run t.tf t.cons t.isx 3000 39) t.cons t.isx 1 3000 w2 [some (.box 0), p1, some (poseC a), some (poseC b), some (.int h), some (cv q), some (.tup ((strM (zm q) a b).map runV)), p7, none, none] S = .nx [some (.box 0), p1, some (poseC a), some (poseC b), some (.int h), some (cv q), some (.tup ((strM (zm q) a b).map runV)), some (.lst [.tup (frM (zm q)), .tup ((strM (zm q) a b).map runV), .int (lgap (zm q) a b : Int)]), none, none] S := by
  have l1 := fun S => listsQ (k := 37) (q := q) (S := S)
  have l2 := fun S => listsP (k := 37) (S := S) ha
  have l3 := fun S => listsP (k := 37) (S := S) hb
  have c1 := fun S => freeL_ (k := 34) (q := q) (w := clv q) (S := S) rfl fun S => fitQL (k := 34)
  have c2 := fun S => stretches (k := 33) (q := q) (u := poseC a) (v := lpose b) (w := clv q) (S := S) ha hb (pose_nob ha) (lpose_nob hb) rfl (fun S => posP (k := 33) ha) (fun S => posPL (k := 33) hb) (fun S => fitQL (k := 34))
  have c3 := fun S => gapS (k := 32) (q := q) (u := lpose a) (v := poseC b) (w := cv q) (S := S) ha hb (lpose_nob ha) (pose_nob hb) rfl (fun S => posPL (k := 32) ha) (fun S => posP (k := 32) hb) (fun S => fitQ (k := 33))
  have st : ∀ S v, store S (.nm 7) v [some (.box 0), p1, some (poseC a), some (poseC b), some (.int h), some (cv q), some (.tup ((strM (zm q) a b).map runV)), p7, none, none] = some [some (.box 0), p1, some (poseC a), some (poseC b), some (.int h), some (cv q), some (.tup ((strM (zm q) a b).map runV)), some (v), none, none] := fun _ _ => rfl
  simp only [w2, sx, onR, onO, F.then, ev, getV, R.bind, withL, withO, List.map_cons, List.map_nil, List.cons_append, List.nil_append, List.replicate, List.getElem?_cons_zero, List.getElem?_cons_succ, List.length_cons, List.length_nil, Nat.reduceAdd, Nat.reduceSub, endR, l1, l2, l3, perm, c1, c2, c3, k3, st]
theorem w3_ (ha : a < 6) (hb : b < 6) : sx (run t.tf t.cons t.isx 3000 39) t.cons t.isx 1 3000 w3 [some (.box 0), p1, some (poseC a), some (poseC b), some (.int h), some (cv q), some (.tup ((strM (zm q) a b).map runV)), some (.lst [.tup (frM (zm q)), .tup ((strM (zm q) a b).map runV), .int (lgap (zm q) a b : Int)]), none, none] S = .nx [some (.box 0), p1, some (poseC a), some (poseC b), some (.int h), some (cv q), some (.tup ((strM (zm q) a b).map runV)), some (.lst [.tup (frM (zm q)), .tup ((strM (zm q) a b).map runV), .int (lgap (zm q) a b : Int)]), none, none] S := by
  have A := all_of (zm_lt q) ha hb
  obtain ⟨hl, hn⟩ := frM_len (zm q) (zm_lt q)
  have c4 := fun S => lawGap (k := 37) (q := q) (S := S) ha hb
  have L : ev (run t.tf t.cons t.isx 3000 39) t.cons t.isx (.lc false [8] (.cl (.nm 8) (.irng (.cons (.int 6) .nil)) (.cmp .eq (.idx (.var 5) (.var 8)) (.int 0)) (.one (.var 8)))) [some (.box 0), p1, some (poseC a), some (poseC b), some (.int h), some (cv q), some (.tup ((strM (zm q) a b).map runV)), some (.lst [.tup (frM (zm q)), .tup ((strM (zm q) a b).map runV), .int (lgap (zm q) a b : Int)]), none, none] S = .ok (.lst (frM (zm q))) S := by
    rw [ev_lc_map (emb := fun (k : Nat) => PV.int (k : Int)) (v := .lst (range1 0 6)) (l := List.range 6) (c := fun k => bitOf (zm q) k) (g := fun k => .int (k : Int)) (by simp only [ev, R.bind, withL, withO, rng6]) rfl rfl (show 8 < 10 by simp) (fun x hx => by
      have hx := List.mem_range.mp hx
      have i1 := fun S => ix_cv (q := q) (S := S) hx
      simp only [ev, getV, R.bind, withL, withO, wipes, List.set, List.getElem?_cons_zero, List.getElem?_cons_succ, i1, cmpop, der_int, eqD_int, zm_bit q hx]) (fun x hx _ => rfl)]
    exact mk1k hl
  have T := ev_tup hl L
  have sm : ∀ S, invoke (run t.tf t.cons t.isx 3000 39 18) [.lst [.tup (frM (zm q)), .tup ((strM (zm q) a b).map runV), .int (lgap (zm q) a b : Int)], .lst [.tup (frM (zm q)), .tup ((strM (zm q) a b).map runV), .int (lgap (zm q) a b : Int)]] S = .ok (.bl true) S := fun S => sameLst (k := 38) (by simp only [PV.nobs, PV.nob, hn, shps_nob (n := 1) (runs_shp (strM (zm q) a b)), Bool.and_self]) (by simp) fun x hx => by
    simp only [List.mem_cons, or_false, List.not_mem_nil] at hx
    rcases hx with z | z | z <;> subst z
    · exact sameFree (k := 36) (zm_lt q)
    · exact sameRuns (k := 35) A.l2 A.l3
    · exact sameI (k := 37)
  simp only [w3, ↓T, sx, onR, onO, F.then, ev, getV, R.bind, withL, withO, List.map_cons, List.map_nil, List.cons_append, List.nil_append, List.replicate, List.getElem?_cons_zero, List.getElem?_cons_succ, List.length_cons, List.length_nil, Nat.reduceAdd, Nat.reduceSub, endR, c4, k3, sm, truth, Bool.not_true, if_false, Bool.false_eq_true]
theorem w4_ (ha : a < 6) (hb : b < 6) : sx (run t.tf t.cons t.isx 3000 39) t.cons t.isx 1 3000 w4 [some (.box 0), p1, some (poseC a), some (poseC b), some (.int h), some (cv q), some (.tup ((strM (zm q) a b).map runV)), some (.lst [.tup (frM (zm q)), .tup ((strM (zm q) a b).map runV), .int (lgap (zm q) a b : Int)]), none, none] S = .nx [some (.box 0), p1, some (poseC a), some (poseC b), some (.int h), some (cv q), some (.tup ((strM (zm q) a b).map runV)), some (.lst [.tup (frM (zm q)), .tup ((strM (zm q) a b).map runV), .int (lgap (zm q) a b : Int)]), none, none] S := by
  have A := all_of (zm_lt q) ha hb
  have c4 := fun S => lawGap (k := 37) (q := q) (S := S) ha hb
  have L : ∀ S, ev (run t.tf t.cons t.isx 3000 39) t.cons t.isx (.lc false [9] (.cl (.nm 9) (.var 6) (.bl true) (.one (.blt .len false (.cons (.var 9) .nil))))) [some (.box 0), p1, some (poseC a), some (poseC b), some (.int h), some (cv q), some (.tup ((strM (zm q) a b).map runV)), some (.lst [.tup (frM (zm q)), .tup ((strM (zm q) a b).map runV), .int (lgap (zm q) a b : Int)]), none, none] S = .ok (.lst ((strM (zm q) a b).map fun r => PV.int (r.length : Int))) S := fun S => by
    rw [ev_lc_map (emb := runV) (v := .tup ((strM (zm q) a b).map runV)) (l := strM (zm q) a b) (c := fun _ => true) (g := fun r => PV.int (r.length : Int)) rfl rfl rfl (show 9 < 10 by simp) (fun x hx => rfl) (fun x hx _ => by
      have ln : ∀ S, blt .len false [runV x] S = .ok (.int (x.length : Int)) S := fun S => by
        unfold runV
        rw [blt_len, iv_len]
      simp only [ev, getV, R.bind, withL, wipes, List.set, List.getElem?_cons_zero, List.getElem?_cons_succ, ln])]
    rw [fm_t]
    exact mk1k (by
      rw [List.length_map]
      have := A.l2
      omega)
  have ad : ∀ S, addop false (.lst ((strM (zm q) a b).map fun r => PV.int (r.length : Int))) (.lst [.int 0]) S = .ok (.lst ((strM (zm q) a b).map (fun r => PV.int (r.length : Int)) ++ [.int 0])) S := fun S => mk1k (by
    rw [List.length_append, List.length_map]
    have := A.l2
    simp
    omega)
  have mx : ∀ S, blt .max false [.lst ((strM (zm q) a b).map (fun r => PV.int (r.length : Int)) ++ [.int 0])] S = .ok (.int (lgap (zm q) a b : Int)) S := fun S => by
    show (withO (intsL ((strM (zm q) a b).map (fun r => PV.int (r.length : Int)) ++ [.int 0])) fun l => withO (imax l) fun i => Rn.R.ok (PV.int i) S) = _
    rw [ints_len0]
    show (withO (imax (lenI (strM (zm q) a b) ++ [0])) fun i => Rn.R.ok (PV.int i) S) = _
    rw [A.g2]
    rfl
  have ne : ∀ S, cmpop .ne (.int (lgap (zm q) a b : Int)) (.int (lgap (zm q) a b : Int)) S = some false := fun S => by
    show oneg (eqD (.int _) (.int _)) = _
    rw [eqD_int, beq_self_eq_true]
    rfl
  simp only [w4, ↓L, sx, onR, onO, F.then, ev, getV, R.bind, withL, withO, List.map_cons, List.map_nil, List.cons_append, List.nil_append, List.replicate, List.getElem?_cons_zero, List.getElem?_cons_succ, List.length_cons, List.length_nil, Nat.reduceAdd, Nat.reduceSub, endR, c4, k1, binop, ad, mx, ne, truth, if_false, Bool.false_eq_true]
end
theorem w5_ {a b : Nat} {h : Int} {p1 p5 p6 p7 : Option PV} {t0 t1 t2 n : Int} (hb : b < 6) (hD : Dr t0 t2 n) (hn : n < 500000000) : ∃ c u0 u2, c < 6 ∧ sx (run t.tf t.cons t.isx 3000 39) t.cons t.isx 1 3000 w5 [some (.box 0), p1, some (poseC a), some (poseC b), some (.int h), p5, p6, p7, none, none] (Tn t0 t1 t2) = .nx [some (.box 0), p1, some (poseC c), some (poseC b), some (.int h), p5, p6, p7, none, none] (Tn u0 t1 u2) ∧ Dr u0 u2 (n + 2) := by
  obtain ⟨d, u0, u2, e, hd, D⟩ := take1 (cons := t.cons) (isx := t.isx) (wf := 3000) (k := 38) (t1 := t1) (b := 2) at14 (by decide) (by decide) hD (by omega)
  have st : ∀ S v, store S (.nm 2) v [some (.box 0), p1, some (poseC a), some (poseC b), some (.int h), p5, p6, p7, none, none] = some [some (.box 0), p1, some v, some (poseC b), some (.int h), p5, p6, p7, none, none] := fun _ _ => rfl
  have po := fun S => poses_ (k := 38) (S := S)
  by_cases z : d = 0
  · subst z
    refine ⟨b, u0, u2, hb, ?_, D.up (by omega)⟩
    have z0 : ∀ S, cmpop .eq (.int ((0 : Nat) : Int)) (.int 0) S = some true := fun _ => rfl
    simp only [w5, sx, onR, onO, F.then, ev, getV, R.bind, withL, withO, List.map_cons, List.map_nil, List.cons_append, List.nil_append, List.replicate, List.getElem?_cons_zero, List.getElem?_cons_succ, List.length_cons, List.length_nil, Nat.reduceAdd, Nat.reduceSub, endR, e, z0, truth, if_true, st]
  · obtain ⟨c, hc, v0, v2, e2, D2⟩ := of1 (cons := t.cons) (isx := t.isx) (wf := 3000) (k := 37) (t1 := t1) (l := ringC) at14 at16 (by simp [ringC]) (by simp [ringC]) (shps_nob ring_shp) D (by omega)
    have ep : ringC[c] = poseC c := by
      unfold poseC
      simp only [List.getD_eq_getElem?_getD, List.getElem?_eq_getElem hc]
      rfl
    rw [ep] at e2
    refine ⟨c, v0, v2, hc, ?_, D2.up (by omega)⟩
    have z0 : ∀ S, cmpop .eq (.int ((d : Nat) : Int)) (.int 0) S = some false := fun _ => by
      show eqD (.int _) (.int _) = _
      rw [eqD_int]
      congr 1
      rw [beq_eq_false_iff_ne]
      omega
    simp only [w5, sx, onR, onO, F.then, ev, getV, R.bind, withL, withO, List.map_cons, List.map_nil, List.cons_append, List.nil_append, List.replicate, List.getElem?_cons_zero, List.getElem?_cons_succ, List.length_cons, List.length_nil, Nat.reduceAdd, Nat.reduceSub, endR, e, z0, truth, if_false, Bool.false_eq_true, po, e2, st]
theorem lap_ {a b : Nat} {h : Int} {p1 p5 p6 p7 : Option PV} {t0 t1 t2 n : Int} (ha : a < 6) (hb : b < 6) (hh : 0 < h ∧ h ≤ 1000000000000) (hD : Dr t0 t2 n) (hn : n < 400000000) : ∃ c p5' p6' p7' u0 u2, c < 6 ∧ sx (run t.tf t.cons t.isx 3000 39) t.cons t.isx 1 3000 wBody [some (.box 0), p1, some (poseC a), some (poseC b), some (.int h), p5, p6, p7, none, none] (Tn t0 t1 t2) = .nx [some (.box 0), p1, some (poseC c), some (poseC b), some (.int h), p5', p6', p7', none, none] (Tn u0 t1 u2) ∧ Dr u0 u2 (n + 14) := by
  obtain ⟨q, a0, a2, e0, D0⟩ := w0_ (a := a) (b := b) (p1 := p1) (p5 := p5) (p6 := p6) (p7 := p7) (t1 := t1) hh hD (by omega)
  obtain ⟨c, u0, u2, hc, e5, D5⟩ := w5_ (a := a) (b := b) (h := h) (p1 := p1) (p5 := some (cv q)) (p6 := some (.tup ((strM (zm q) a b).map runV))) (p7 := some (.lst [.tup (frM (zm q)), .tup ((strM (zm q) a b).map runV), .int (lgap (zm q) a b : Int)])) (t1 := t1) hb D0 (by omega)
  refine ⟨c, some (cv q), some (.tup ((strM (zm q) a b).map runV)), some (.lst [.tup (frM (zm q)), .tup ((strM (zm q) a b).map runV), .int (lgap (zm q) a b : Int)]), u0, u2, hc, ?_, D5.up (by omega)⟩
  rw [wBody_eq, seq_nx e0, seq_nx (w1_ ha hb), seq_nx (w2_ ha hb), seq_nx (w3_ ha hb), seq_nx (w4_ ha hb), seq_nx e5]
  rfl
theorem laps_ {b : Nat} {h : Int} {t1 : Int} (hb : b < 6) (hh : 0 < h ∧ h ≤ 1000000000000) {all : List PV} : ∀ {ls : List Nat} {a : Nat} {p1 p5 p6 p7 : Option PV} {t0 t2 n : Int}, a < 6 → Dr t0 t2 n → n + 14 * (ls.length : Int) < 300000000 → ∃ c p1' p5' p6' p7' u0 u2, forLoop none all (fun x ρ1 S2 => onO (store S2 (.nm 1) x ρ1) fun ρ2 => sx (run t.tf t.cons t.isx 3000 39) t.cons t.isx 1 3000 wBody ρ2 S2) (iv ls) [some (.box 0), p1, some (poseC a), some (poseC b), some (.int h), p5, p6, p7, none, none] (Tn t0 t1 t2) = .nx [some (.box 0), p1', some (poseC c), some (poseC b), some (.int h), p5', p6', p7', none, none] (Tn u0 t1 u2)
  | [], a, p1, p5, p6, p7, t0, t2, n, ha, hD, hn => ⟨a, p1, p5, p6, p7, t0, t2, rfl⟩
  | l :: ls, a, p1, p5, p6, p7, t0, t2, n, ha, hD, hn => by
    have hn : n + 14 * ((ls.length + 1 : Nat) : Int) < 300000000 := hn
    obtain ⟨c, p5a, p6a, p7a, a0, a2, hc, e, D⟩ := lap_ (a := a) (b := b) (h := h) (p1 := some (.int (l : Int))) (p5 := p5) (p6 := p6) (p7 := p7) (t1 := t1) ha hb hh hD (by omega)
    obtain ⟨c', p1', p5', p6', p7', u0, u2, e2⟩ := laps_ hb hh (all := all) (ls := ls) (a := c) (p1 := some (.int (l : Int))) (p5 := p5a) (p6 := p6a) (p7 := p7a) (t0 := a0) (t2 := a2) (n := n + 14) hc D (by omega)
    refine ⟨c', p1', p5', p6', p7', u0, u2, ?_⟩
    have st : ∀ S, store S (.nm 1) (.int (l : Int)) [some (.box 0), p1, some (poseC a), some (poseC b), some (.int h), p5, p6, p7, none, none] = some [some (.box 0), some (.int (l : Int)), some (poseC a), some (poseC b), some (.int h), p5, p6, p7, none, none] := fun _ => rfl
    show forLoop none all _ (.int (l : Int) :: iv ls) _ _ = _
    rw [forL_cons]
    · exact e2
    · rw [st]
      exact e
def highL : List PV := [.int 2, .int 2, .int 1000000000000]
theorem high_int : ∀ (d : Nat) (h : d < highL.length), ∃ i : Int, (0 < i ∧ i ≤ 1000000000000) ∧ highL[d]'h = .int i
  | 0, _ => ⟨2, by decide, rfl⟩
  | 1, _ => ⟨2, by decide, rfl⟩
  | 2, _ => ⟨1000000000000, by decide, rfl⟩
theorem h0_ {t0 t1 t2 n : Int} (hD : Dr t0 t2 n) (hn : n < 1000) : ∃ (a b : Nat) (h : Int) (u0 u2 : Int), a < 6 ∧ b < 6 ∧ (0 < h ∧ h ≤ 1000000000000) ∧ sx (run t.tf t.cons t.isx 3000 39) t.cons t.isx 1 3000 (.asg (.tup (.cons (.nm 2) (.cons (.nm 3) (.cons (.nm 4) .nil)))) (.tup (.cons (.call 16 (.cons (.var 0) (.cons (.call 19 .nil) .nil))) (.cons (.call 16 (.cons (.var 0) (.cons (.call 19 .nil) .nil))) (.cons (.call 16 (.cons (.var 0) (.cons (.lst false (.cons (.int 2) (.cons (.int 2) (.cons (.bin .pow false (.int 10) (.int 12)) .nil)))) .nil))) .nil))))) [some (.box 0), none, none, none, none, none, none, none, none, none] (Tn t0 t1 t2) = .nx [some (.box 0), none, some (poseC a), some (poseC b), some (.int h), none, none, none, none, none] (Tn u0 t1 u2) ∧ Dr u0 u2 (n + 3) := by
  have po := fun S => poses_ (k := 38) (S := S)
  have ep : ∀ (c : Nat) (hc : c < ringC.length), ringC[c] = poseC c := fun c hc => by
    unfold poseC
    simp only [List.getD_eq_getElem?_getD, List.getElem?_eq_getElem hc]
    rfl
  obtain ⟨a, ha, a0, a2, e1, D1⟩ := of1 (cons := t.cons) (isx := t.isx) (wf := 3000) (k := 37) (t1 := t1) (l := ringC) at14 at16 (by simp [ringC]) (by simp [ringC]) (shps_nob ring_shp) hD (by omega)
  obtain ⟨b, hb, b0, b2, e2, D2⟩ := of1 (cons := t.cons) (isx := t.isx) (wf := 3000) (k := 37) (t1 := t1) (l := ringC) at14 at16 (by simp [ringC]) (by simp [ringC]) (shps_nob ring_shp) D1 (by omega)
  obtain ⟨d, hd, c0, c2, e3, D3⟩ := of1 (cons := t.cons) (isx := t.isx) (wf := 3000) (k := 37) (t1 := t1) (l := highL) at14 at16 (by simp [highL]) (by simp [highL]) rfl D2 (by omega)
  rw [ep] at e1 e2
  obtain ⟨h, hh, eh⟩ := high_int d hd
  rw [eh] at e3
  refine ⟨a, b, h, c0, c2, ha, hb, hh, ?_, D3.up (by omega)⟩
  have pw : ∀ S, binop .pow false (.int 10) (.int 12) S = .ok (.int 1000000000000) S := fun S => rfl
  have ml : ∀ S, mk false [.int 2, .int 2, .int 1000000000000] S = .ok (.lst highL) S := fun S => rfl
  have st : ∀ S x y z, store S (.tup (.cons (.nm 2) (.cons (.nm 3) (.cons (.nm 4) .nil)))) (.tup [x, y, z]) [some (.box 0), none, none, none, none, none, none, none, none, none] = some [some (.box 0), none, some x, some y, some z, none, none, none, none, none] := fun _ _ _ _ => rfl
  simp only [sx, onR, onO, F.then, ev, getV, R.bind, withL, withO, List.map_cons, List.map_nil, List.cons_append, List.nil_append, List.replicate, List.getElem?_cons_zero, List.getElem?_cons_succ, List.length_cons, List.length_nil, Nat.reduceAdd, Nat.reduceSub, endR, po, e1, e2, pw, ml, e3, m3, st]
theorem right24 {t0 t1 t2 : Int} (hD : Dr t0 t2 0) : ∃ (u0 u2 : Int), run t.tf t.cons t.isx 3000 40 24 [.box 0] (Tn t0 t1 t2) = .ok (.bl true) (Tn u0 t1 u2) := by
  obtain ⟨a, b, h, a0, a2, ha, hb, hh, e0, D0⟩ := h0_ (t1 := t1) hD (by decide)
  obtain ⟨c, p1, p5, p6, p7, u0, u2, e⟩ := laps_ (t1 := t1) hb hh (all := iv (List.range 4)) (ls := List.range 4) (a := a) (p1 := none) (p5 := none) (p6 := none) (p7 := none) ha D0 (by decide)
  refine ⟨u0, u2, ?_⟩
  rw [run_fn at24 rfl]
  show endR (sx (run t.tf t.cons t.isx 3000 39) t.cons t.isx 1 3000 b24 [some (.box 0), none, none, none, none, none, none, none, none, none] (Tn t0 t1 t2)) = _
  have F1 : sx (run t.tf t.cons t.isx 3000 39) t.cons t.isx 1 3000 (.for (.nm 1) (.irng (.cons (.int 4) .nil)) wBody) [some (.box 0), none, some (poseC a), some (poseC b), some (.int h), none, none, none, none, none] (Tn a0 t1 a2) = .nx [some (.box 0), p1, some (poseC c), some (poseC b), some (.int h), p5, p6, p7, none, none] (Tn u0 t1 u2) := e
  rw [law_eq, seq_nx e0, seq_nx F1]
  simp only [sx, ev, onR, F.then, endR]
end Lw
set_option maxHeartbeats 0
namespace Lw
open Rn PySem
def isT (r : Rn.R PV) : Bool := match r with | .ok (.bl true) _ => true | _ => false
theorem isT_ok {r : Rn.R PV} (h : isT r = true) : ∃ S, r = .ok (.bl true) S := by
  unfold isT at h
  split at h
  · exact ⟨_, rfl⟩
  · cases h
theorem c53 : isT (run t.tf t.cons t.isx 3000 40 23 [] []) = true := by
  rw [run_fast]
  decide +kernel
theorem at13 : t.tf 13 = some ⟨2, 3, bBox 3194015⟩ := rfl
theorem at15 : t.tf 15 = some ⟨2, 6, bCells⟩ := rfl
theorem at25 : t.tf t.law = some ⟨1, 3, b25⟩ := rfl
/-- a source of draws anywhere in the store -/
theorem invN {f : List PV → Sto → Rn.R PV} {n : Nat} {S : Sto} {t0 t1 t2 u0 u1 u2 : Int} (hS : getB S n = some [.int t0, .int t1, .int t2]) (h : f [.box 0] (Tn t0 t1 t2) = .ok (.bl true) (Tn u0 u1 u2)) : invoke f [.box n] S = .ok (.bl true) (S.set n (some [.int u0, .int u1, .int u2])) := by
  unfold invoke
  rw [if_pos (show (nodup (boxes [.box n]) && okArgs [.box n]) = true from rfl)]
  show (match grab S [n] with | some S0 => _ | none => _) = _
  have g : grab S [n] = some (Tn t0 t1 t2) := by
    show (match getB S n, grab S [] with | some l, some ls => some (some l :: ls) | _, _ => none) = _
    rw [hS]
    rfl
  rw [g]
  show (if plainS (Tn t0 t1 t2) then match f [.box 0] (Tn t0 t1 t2) with
      | .ok v S1 => if plainS (S1.take 1) then giveBack [n] v (putBack S [n] S1) S1 else .no
      | .ex c S1 => if PV.nobs c.args && plainS (S1.take 1) then .ex c (putBack S [n] S1) else .no
      | .no => .no else .no) = _
  rw [if_pos (show plainS (Tn t0 t1 t2) = true from rfl), h]
  rfl
theorem step55 {p0 : Option PV} {cs : List Int} {j : Nat} (hj : j < cs.length) (S : Sto) : ∃ S', ev (run t.tf t.cons t.isx 3000 40) t.cons t.isx (.call 24 (.cons (.call 13 (.cons (.var 1) (.cons (.var 2) .nil))) .nil)) [p0, some (.lst (cs.map .int)), some (.int (j : Int))] S = .ok (.bl true) S' := by
  obtain ⟨t0, t1, q1, q2⟩ := box_call (cons := t.cons) (isx := t.isx) (wf := 3000) (k := 39) (S := S) at13 hj
  obtain ⟨u0, u2, e⟩ := right24 (t1 := t1) (t2 := 0) ⟨q2, Int.le_refl 0, Int.le_refl 0⟩
  have q1 : invoke (run t.tf t.cons t.isx 3000 40 13) [.lst (cs.map .int), .int (j : Int)] S = .ok (.box S.length) (S ++ [some [.int t0, .int t1, .int 0]]) := q1
  have gb : getB (S ++ [some [.int t0, .int t1, .int 0]]) S.length = some [.int t0, .int t1, .int 0] := by
    unfold getB
    rw [List.getElem?_append_right (Nat.le_refl _), Nat.sub_self]
    rfl
  have c := invN (f := run t.tf t.cons t.isx 3000 40 24) gb e
  exact ⟨_, by simp only [ev, getV, R.bind, withL, List.getElem?_cons_zero, List.getElem?_cons_succ, q1, c]; rfl⟩
theorem lcLoop_st {P : PV → Prop} {step : PV → Sto → Rn.R (List PV)} {all : List PV} (he : ∀ x, P x → ∀ S, ∃ S', step x S = .ok [.bl true] S') : ∀ {l : List PV} (S : Sto), (∀ x ∈ l, P x) → ∃ S', lcLoop none all step l S = .ok (l.map fun _ => .bl true) S'
  | [], S, _ => ⟨S, rfl⟩
  | x :: xs, S, h => by
    obtain ⟨S1, e1⟩ := he x (h x List.mem_cons_self) S
    obtain ⟨S2, e2⟩ := lcLoop_st (all := all) he (l := xs) S1 fun y hy => h y (List.mem_cons_of_mem _ hy)
    refine ⟨S2, ?_⟩
    show (match step x S with
      | .ok r S1 => match lcLoop none all step xs S1 with
        | .ok r2 S2 => Rn.R.ok (r ++ r2) S2
        | _ => Rn.R.no
      | _ => Rn.R.no) = _
    rw [e1]
    show (match lcLoop none all step xs S1 with
        | .ok r2 S2 => Rn.R.ok ([PV.bl true] ++ r2) S2
        | _ => Rn.R.no) = _
    rw [e2]
    rfl
theorem right (ns : List Int) (hl : ns.length ≤ 63) : ∃ S, run t.tf t.cons t.isx 3000 41 t.law [.klst (ns.map .int)] [] = .ok (.bl true) S := by
  obtain ⟨cs, p1, p2, p3⟩ := cells_call (cons := t.cons) (isx := t.isx) (wf := 3000) (k := 39) (M := 2) (S := []) at15 hl (by decide) (by decide)
  obtain ⟨S1, e53⟩ := isT_ok c53
  have c1 : invoke (run t.tf t.cons t.isx 3000 40 23) [] [] = .ok (.bl true) [] := inv0 rfl rfl e53
  have p3 : invoke (run t.tf t.cons t.isx 3000 40 15) [.klst (ns.map .int), .int 2] [] = .ok (.lst (cs.map .int)) [] := p3
  have hr := rangeN cs.length (by omega)
  have st : ∀ S (x : PV), store S (.nm 2) x [some (.klst (ns.map .int)), some (.lst (cs.map .int)), none] = some [some (.klst (ns.map .int)), some (.lst (cs.map .int)), some x] := fun _ _ => rfl
  obtain ⟨S2, L⟩ := lcLoop_st (P := fun x => ∃ j : Nat, j < cs.length ∧ x = .int (j : Int)) (all := range1 0 cs.length) (step := fun x S2 => withO (store S2 (.nm 2) x [some (.klst (ns.map .int)), some (.lst (cs.map .int)), none]) fun ρ' => (ev (run t.tf t.cons t.isx 3000 40) t.cons t.isx (.bl true) ρ' S2).bind fun w S3 => withO (truth S3 w) fun b =>
        if b then (ev (run t.tf t.cons t.isx 3000 40) t.cons t.isx (.one (.call 24 (.cons (.call 13 (.cons (.var 1) (.cons (.var 2) .nil))) .nil))) ρ' S3).bind fun r S4 => withL r fun vs => .ok vs S4 else .ok [] S3) (fun x hx S => by
    obtain ⟨j, hj, rfl⟩ := hx
    obtain ⟨S', e⟩ := step55 (p0 := some (.klst (ns.map .int))) hj S
    refine ⟨S', ?_⟩
    show withO (store S (.nm 2) (.int (j : Int)) _) _ = _
    rw [st]
    show (R.bind ((ev (run t.tf t.cons t.isx 3000 40) t.cons t.isx (.call 24 (.cons (.call 13 (.cons (.var 1) (.cons (.var 2) .nil))) .nil)) [some (.klst (ns.map .int)), some (.lst (cs.map .int)), some (.int (j : Int))] S).bind fun v S1 => .ok (.lst [v]) S1) fun r S4 => withL r fun vs => .ok vs S4) = _
    rw [e]
    rfl) (l := range1 0 cs.length) [] fun x hx => mem_range1 hx
  have hit : ev (run t.tf t.cons t.isx 3000 40) t.cons t.isx (.irng (.cons (.blt .len false (.cons (.var 1) .nil)) .nil)) [some (.klst (ns.map .int)), some (.lst (cs.map .int)), none] [] = .ok (.lst (range1 0 cs.length)) [] := by
    simp only [ev, getV, R.bind, withL, withO, List.getElem?_cons_zero, List.getElem?_cons_succ, blt_lenL, List.length_map, hr]
  have C : ev (run t.tf t.cons t.isx 3000 40) t.cons t.isx (.lc false [2] (.cl (.nm 2) (.irng (.cons (.blt .len false (.cons (.var 1) .nil)) .nil)) (.bl true) (.one (.call 24 (.cons (.call 13 (.cons (.var 1) (.cons (.var 2) .nil))) .nil))))) [some (.klst (ns.map .int)), some (.lst (cs.map .int)), none] [] = .ok (.lst ((range1 0 cs.length).map fun _ => .bl true)) S2 := by
    show (R.bind ((ev (run t.tf t.cons t.isx 3000 40) t.cons t.isx (.irng (.cons (.blt .len false (.cons (.var 1) .nil)) .nil)) [some (.klst (ns.map .int)), some (.lst (cs.map .int)), none] []).bind fun v S1 => withO (items S1 v) fun l => (lcLoop (boxOf v) l _ l S1).bind fun vs S5 => .ok (.lst vs) S5) fun r S1 => withL r fun vs => mk false vs S1) = _
    rw [hit]
    show (R.bind ((lcLoop none (range1 0 cs.length) _ (range1 0 cs.length) []).bind fun vs S5 => .ok (.lst vs) S5) fun r S1 => withL r fun vs => mk false vs S1) = _
    rw [show wipes [some (.klst (ns.map .int)), some (.lst (cs.map .int)), none] [2] = [some (.klst (ns.map .int)), some (.lst (cs.map .int)), none] from rfl, L]
    exact mk1k (by rw [List.length_map, range1_len]; omega)
  obtain ⟨a1, a2⟩ := all_true (range1 0 cs.length)
  refine ⟨S2, ?_⟩
  rw [run_fn at25 rfl]
  show endR (sx (run t.tf t.cons t.isx 3000 40) t.cons t.isx 0 3000 b25 [some (.klst (ns.map .int)), none, none] []) = _
  have st1 : ∀ S (x : PV), store S (.nm 1) x [some (.klst (ns.map .int)), none, none] = some [some (.klst (ns.map .int)), some x, none] := fun _ _ => rfl
  simp only [b25, ↓C, sx, F.then, onR, onO, ev, getV, R.bind, withL, withO, List.getElem?_cons_zero, List.getElem?_cons_succ, c1, p3, truth, if_true, if_false, Bool.not_true, Bool.false_eq_true, st1, blt_all, a1, a2, endR]
end Lw
open PyProof.Rows PySem PySem.Calls PySem.W
set_option maxRecDepth 100003 in
set_option maxHeartbeats 0 in
theorem PySem.Challenge.cw_movedchest_k15_whole_gaps_by_own_runs_holds : PySem.Challenge.rw_movedchest_k15_whole_gaps_by_own_runs.Holds := by
  w_on; o_law
  refine HandSHeadRun.head_any (r := OpenLaw.row PySem.Challenge.rw_movedchest_k15_whole_gaps_by_own_runs) (q := view (OpenLaw.row PySem.Challenge.rw_movedchest_k15_whole_gaps_by_own_runs).prog [34]) (H := Lw.hk) (ob := Lw.ob) (M := 4000) (loose := Lw.nms) (d := HandSHeadRun.topDef (OpenLaw.row PySem.Challenge.rw_movedchest_k15_whole_gaps_by_own_runs).prog 34) (kwd := []) Lw.ob_eq
    (by kernel_rfl) (fun s => by kernel_rfl) Lw.headRun (by kernel_rfl) (by kernel_rfl) (by kernel_rfl) (by rfl) (by first | assumption | decide +kernel) (by decide +kernel) ⟨rfl, rfl, rfl, rfl, rfl, by decide +kernel⟩ ?hw ?hc
  case hw => w_witness2
  case hc => exact Rn.law_walk (t := Lw.t) (l := PySem.Challenge.rw_movedchest_k15_whole_gaps_by_own_runs) (wf := 3000) (k := 41) rfl (by kernel_rfl) ⟨rfl, by decide, by decide⟩ Lw.look (by kernel_rfl) (by kernel_rfl) (by kernel_rfl) (by kernel_rfl) Lw.right
