/- Texts joined: HPure, HLeaf, HPub, FPure, FLeaf, WPure, WLeaf, WMid, WMids, WA, WB, IRef0, UNI, UNA, UNB, UNC, SPure, SChain, SRef, SClass, SShape, UND, UNN, OPure, ORef, OFet, OLit, UNO, UNF, UNL, UNS, UNT, UNU. -/
import Derived.Test.YteiejjmhmmkdhaaGreatRows
import Derived.Test.YteiejjmhmmkdhaaGreatJ1
import Derived.Test.YteiejjmhmmkdhaaGreatJ2
import Derived.Test.YteiejjmhmmkdhaaGreatJ3
import Derived.Laws.BitsAllLaws
import Derived.Laws.BitsLemmas
import Derived.RowKit
import Derived.WalkKit
import Derived.WalkSpells
import Derived.WalkLawsBesides
import Derived.Handy
import Derived.Lib.Hide
import Derived.BigQuiet
import Derived.LoopN
import Derived.Deep.RegionHeld
import Derived.Deep.DeepCutAuto
import Derived.Deep.MidRow
import Derived.Deep.RegionHeld3
import Derived.Deep.RegionWith
import Derived.StillTailTactics
import Derived.Laws.IdiomStrings
/- Plain facts on heads, chapter 2: no program is named here. -/
namespace Go.Proofs.YteiejjmhmmkdhaaGreat
set_option maxRecDepth 20000
open Go.RowKit
namespace Wd
def hok (a b c:Int):Bool:=decide (0≤a) && decide (a≤4095) && decide (0≤b) && decide (b≤255) && decide (0≤c) && decide (c≤15)
def pk (a b c:Int):Int:=if hok a b c then a*1048576+b*4096+c*256+1 else 0
def isH (w:Int):Bool:=w % 256 == 1
def hc (w:Int):Int:=w / 1048576
def hs (w:Int):Int:=w / 4096 % 256
def hk (w:Int):Int:=w / 256 % 16
def oc (w:Int):Int:=if isH w then hc w else 0
def os (w:Int):Int:=if isH w then hs w else 0
def ok (w:Int):Int:=if isH w then hk w else 0
theorem or_add (x y:Int) (i:Nat) (hx:0≤x) (hx':x≤4294967295) (hy:0≤y) (hy':y < 2 ^ i) (hd:x % 2 ^ i=0) (hy2:y≤4294967295):bits .or .u32 x y=x+y:=by
 rw [u32_or x y hx (by omega) hy (by omega)]
 obtain⟨k,hk⟩:∃ k:Nat,x=2 ^ i*k:=by
  refine⟨(x / 2 ^ i).toNat,?_⟩
  have h1:=Int.mul_ediv_add_emod x (2 ^ i)
  have h2:0≤x / 2 ^ i:=Int.ediv_nonneg hx (Int.pow_nonneg (by omega))
  rw [Int.toNat_of_nonneg h2];omega
 have hxn:x.toNat=2 ^ i*k:=by
  have:((2:Int) ^ i*k)=((2 ^ i*k:Nat):Int):=by simp
  rw [hk,this];omega
 have hyn:y.toNat < 2 ^ i:=by
  have:((2 ^ i:Nat):Int)=(2:Int) ^ i:=by simp
  omega
 have:=Nat.two_pow_add_eq_or_of_lt hyn k
 rw [hxn,← this,← hxn];omega
theorem and_mod (x:Int) (i:Nat) (m:Int) (hm:m=2 ^ i - 1) (hx:0≤x) (hx':x≤4294967295) (hm':m≤4294967295):bits .and .u32 x m=x % 2 ^ i:=by
 have hp:((2 ^ i:Nat):Int)=(2:Int) ^ i:=by simp
 have h1:1≤2 ^ i:=Nat.one_le_two_pow
 rw [u32_and x m hx (by omega) (by omega) (by omega)]
 have:m.toNat=2 ^ i - 1:=by omega
 rw [this,Nat.and_two_pow_sub_one_eq_mod,← hp]
 have e:((x.toNat:Nat):Int)=x:=Int.toNat_of_nonneg hx
 rw [Int.natCast_emod,e]
theorem and255 (x:Int) (hx:0≤x) (hx':x≤4294967295):bits .and .u32 x 255=x % 256:=and_mod x 8 255 rfl hx hx' (by omega)
theorem and15 (x:Int) (hx:0≤x) (hx':x≤4294967295):bits .and .u32 x 15=x % 16:=and_mod x 4 15 rfl hx hx' (by omega)
theorem and4095 (x:Int) (hx:0≤x) (hx':x≤4294967295):bits .and .u32 x 4095=x % 4096:=and_mod x 12 4095 rfl hx hx' (by omega)
theorem hok_iff (a b c:Int):hok a b c=true↔(0≤a∧a≤4095)∧(0≤b∧b≤255)∧(0≤c∧c≤15):=by simp [hok];omega
theorem pk_bd (a b c:Int):0≤pk a b c∧pk a b c≤4294967295:=by
 unfold pk;split
 ·rename_i h;rw [hok_iff] at h;omega
 ·omega
theorem pack_eq (a b c:Int) (ha:0≤a) (ha':a≤4095) (hb:0≤b) (hb':b≤255) (hc:0≤c) (hc':c≤15) :
  bits .or .u32 (bits .or .u32 (bits .or .u32 (a % 4294967296*1048576 % 4294967296) (b % 4294967296*4096 % 4294967296)) (c % 4294967296*256 % 4294967296)) 1=a*1048576+b*4096+c*256+1:=by
 rw [show a % 4294967296*1048576 % 4294967296=a*1048576 by omega,show b % 4294967296*4096 % 4294967296=b*4096 by omega,show c % 4294967296*256 % 4294967296=c*256 by omega]
 rw [or_add (a*1048576) (b*4096) 20 (by omega) (by omega) (by omega) (by omega) (by omega) (by omega)]
 rw [or_add (a*1048576+b*4096) (c*256) 12 (by omega) (by omega) (by omega) (by omega) (by omega) (by omega)]
 rw [or_add (a*1048576+b*4096+c*256) 1 8 (by omega) (by omega) (by omega) (by omega) (by omega) (by omega)]
theorem hok_cases (a b c:Int):((a < 0∨4095 < a∨b < 0∨255 < b∨c < 0∨15 < c)∧hok a b c=false)∨((0≤a∧a≤4095∧0≤b∧b≤255∧0≤c∧c≤15)∧hok a b c=true):=by
 by_cases h:(0≤a∧a≤4095)∧(0≤b∧b≤255)∧(0≤c∧c≤15)
 ·exact Or.inr ⟨by omega,(hok_iff a b c).2 h⟩
 ·refine Or.inl ⟨by omega,?_⟩
  cases e:hok a b c
  ·rfl
  ·exact absurd ((hok_iff a b c).1 e) h
theorem wrap_fit (n m:Int) (h1:-9223372036854775808≤n) (h2:n≤9223372036854775807) (hm:1≤m) (hm':m≤4294967296):(n % 18446744073709551616 / m=0)↔(0≤n∧n < m):=by
 rw [Int.ediv_eq_iff_of_pos (by omega)]
 omega
theorem pk_open (a b c:Int) (h:hok a b c=true):isH (pk a b c)=true∧hc (pk a b c)=a∧hs (pk a b c)=b∧hk (pk a b c)=c:=by
 have h':=(hok_iff a b c).1 h
 simp only [pk,h,if_true,isH,hc,hs,hk,beq_iff_eq]
 refine⟨?_,?_,?_,?_⟩ <;> omega
end Wd
end Go.Proofs.YteiejjmhmmkdhaaGreat

/- What each function of the package head, and of the document's own answer, returns. -/
namespace Go.Proofs.YteiejjmhmmkdhaaGreat
set_option maxRecDepth 20000
open Go.RowKit
namespace Wd
theorem fits_c (n b m:Int) (hb:(b=12∧m=4096)∨(b=8∧m=256)∨(b=4∧m=16)) (h1:-9223372036854775808≤n) (h2:n≤9223372036854775807) (w:World) :
  Calls Tryz.prog 62 #[.int .i64 n,.int .i64 b] w fun e w'=>e=.returned (.bool (decide (0≤n∧n < m)))∧w=w':=by
 have hw:(n % 18446744073709551616 / m == 0)=decide (0≤n∧n < m):=by
  rw [Bool.eq_iff_iff,beq_iff_eq,decide_eq_true_iff]
  exact wrap_fit n m h1 h2 (by omega) (by omega)
 rcases hb with ⟨rfl,rfl⟩ | ⟨rfl,rfl⟩ | ⟨rfl,rfl⟩ <;>
 ·rw [← hw];clear hw
  go_enter Tryz.func62,Tryz.ntmps62
  go_wp2
  go_ret
  exact⟨rfl,rfl⟩
theorem part_c (a t b m l:Int) (h0:0≤a) (h1:a≤4294967295) (hb:(t=0∧b=8∧l=1∧m=256)∨(t=8∧b=4∧l=256∧m=16)∨(t=12∧b=8∧l=4096∧m=256)∨(t=20∧b=12∧l=1048576∧m=4096)) (w:World) :
  Calls Tryz.prog 76 #[.int .u32 a,.int .i64 t,.int .i64 b] w fun e w'=>e=.returned (.int .i64 (a / l % m))∧w'=w.drew:=by
 have k8:=fun x h h'=>and255 x h h'
 have k4:=fun x h h'=>and15 x h h'
 have k12:=fun x h h'=>and4095 x h h'
 rcases hb with ⟨rfl,rfl,rfl,rfl⟩ | ⟨rfl,rfl,rfl,rfl⟩ | ⟨rfl,rfl,rfl,rfl⟩ | ⟨rfl,rfl,rfl,rfl⟩ <;>
 ·go_enter Tryz.func76,Tryz.ntmps76
  go_wp2
  go_region
  all_goals go_wp2
  all_goals go_ret
  exact⟨by
   first
   | (refine congrArg Ending.returned (congrArg (Value.int .i64) ?_);show a % 256=a / 1 % 256;omega)
   | (refine congrArg Ending.returned (congrArg (Value.int .i64) ?_);show wrap64 (bits _ _ _ _)=_;(first | rw [k8 _ (by omega) (by omega)] | rw [k4 _ (by omega) (by omega)] | rw [k12 _ (by omega) (by omega)]);rw [IntWalk.wrap64_in _ (by omega)]),rfl⟩
end Wd
end Go.Proofs.YteiejjmhmmkdhaaGreat

/- What Pack, Open, Class, Size return. -/
namespace Go.Proofs.YteiejjmhmmkdhaaGreat
set_option maxRecDepth 20000
open Go.RowKit
namespace Wd
theorem Class_c (a:Int) (h0:0≤a) (h1:a≤4294967295) (w:World) :
  Calls Tryz.prog 55 #[.int .u32 a] w fun e w'=>e=.returned (.int .i64 (hc a))∧w'=w.drew:=by
 go_enter Tryz.func55,Tryz.ntmps55
 go_wp2_with (first | (go_at_call 76;((with_reducible refine (part_c _ _ _ _ _ ?_ ?_ (by first | exact Or.inl ⟨rfl,rfl,rfl,rfl⟩ | exact Or.inr (Or.inl ⟨rfl,rfl,rfl,rfl⟩) | exact Or.inr (Or.inr (Or.inl ⟨rfl,rfl,rfl,rfl⟩)) | exact Or.inr (Or.inr (Or.inr ⟨rfl,rfl,rfl,rfl⟩))) _).mono ?_);(first | with_reducible assumption | omega);(first | with_reducible assumption | omega);rintro e w' ⟨rfl,rfl⟩)))
 go_ret
 refine⟨congrArg Ending.returned (congrArg (Value.int .i64) ?_),rfl⟩
 unfold hc;omega
theorem Size_c (a:Int) (h0:0≤a) (h1:a≤4294967295) (w:World) :
  Calls Tryz.prog 56 #[.int .u32 a] w fun e w'=>e=.returned (.int .i64 (hs a))∧w'=w.drew:=by
 go_enter Tryz.func56,Tryz.ntmps56
 go_wp2_with (first | (go_at_call 76;((with_reducible refine (part_c _ _ _ _ _ ?_ ?_ (by first | exact Or.inl ⟨rfl,rfl,rfl,rfl⟩ | exact Or.inr (Or.inl ⟨rfl,rfl,rfl,rfl⟩) | exact Or.inr (Or.inr (Or.inl ⟨rfl,rfl,rfl,rfl⟩)) | exact Or.inr (Or.inr (Or.inr ⟨rfl,rfl,rfl,rfl⟩))) _).mono ?_);(first | with_reducible assumption | omega);(first | with_reducible assumption | omega);rintro e w' ⟨rfl,rfl⟩)))
 go_ret
 refine⟨congrArg Ending.returned (congrArg (Value.int .i64) ?_),rfl⟩
 rfl
theorem Pack_c (a b c:Int) (ha:-9223372036854775808≤a) (ha':a≤9223372036854775807) (hb:-9223372036854775808≤b) (hb':b≤9223372036854775807) (hc:-9223372036854775808≤c) (hc':c≤9223372036854775807) (w:World) :
  Calls Tryz.prog 40 #[.agg #[.int .i64 a,.int .i64 b,.int .i64 c]] w fun e w'=>e=.returned (.tuple #[.int .u32 (pk a b c),.bool (hok a b c)])∧w'=w.alloc (.cells #[.int .i64 a,.int .i64 b,.int .i64 c] 93):=by
 rcases hok_cases a b c with ⟨h,e⟩ | ⟨⟨h1,h2,h3,h4,h5,h6⟩,e⟩
 ·have ev:pk a b c=0:=by simp [pk,e]
  have key:decide (0≤a∧a < 4096)=false∨decide (0≤a∧a < 4096)=true∧decide (0≤b∧b < 256)=false∨decide (0≤a∧a < 4096)=true∧decide (0≤b∧b < 256)=true∧decide (0≤c∧c < 16)=false:=by
   simp only [decide_eq_true_eq,decide_eq_false_iff_not];omega
  rw [e,ev];clear e ev h
  rcases key with k1 | ⟨k1,k2⟩ | ⟨k1,k2,k3⟩ <;>
  ·go_enter Tryz.func40,Tryz.ntmps40
   go_wp2_with (first | (go_at_call 62;((with_reducible refine (fits_c _ _ _ (by first | exact Or.inl ⟨rfl,rfl⟩ | exact Or.inr (Or.inl ⟨rfl,rfl⟩) | exact Or.inr (Or.inr ⟨rfl,rfl⟩)) ?_ ?_ _).mono ?_);(first | with_reducible assumption | omega);(first | with_reducible assumption | omega);rintro e w' ⟨rfl,rfl⟩)))
   go_ret2
   exact⟨rfl,rfl⟩
 ·have ev:pk a b c=a*1048576+b*4096+c*256+1:=by simp [pk,e]
  have k1:decide (0≤a∧a < 4096)=true:=by simp;omega
  have k2:decide (0≤b∧b < 256)=true:=by simp;omega
  have k3:decide (0≤c∧c < 16)=true:=by simp;omega
  have k:=Lib.hid (pack_eq a b c h1 h2 h3 h4 h5 h6)
  rw [e,ev];clear e ev h1 h2 h3 h4 h5 h6
  go_enter Tryz.func40,Tryz.ntmps40
  go_wp2_with (first | (go_at_call 62;((with_reducible refine (fits_c _ _ _ (by first | exact Or.inl ⟨rfl,rfl⟩ | exact Or.inr (Or.inl ⟨rfl,rfl⟩) | exact Or.inr (Or.inr ⟨rfl,rfl⟩)) ?_ ?_ _).mono ?_);(first | with_reducible assumption | omega);(first | with_reducible assumption | omega);rintro e w' ⟨rfl,rfl⟩)))
  go_ret2
  rw [← k.out]
  exact⟨rfl,rfl⟩
end Wd
end Go.Proofs.YteiejjmhmmkdhaaGreat

/- Plain facts on sizes, chapter 3: no program is named here. -/
namespace Go.Proofs.YteiejjmhmmkdhaaGreat
open Go.RowKit
namespace Wd
def wd (n:Int):Int:=if n=0 then 4 else if n=1 then 8 else if n=2 then 16 else if n=3 then 32 else if n=4 then 64 else 0
def fo (n:Int):Int:=if n < 0 then -1 else if n≤2 then 0 else if n≤6 then 1 else if n≤14 then 2 else if n≤30 then 3 else if n≤62 then 4 else -1
def rt (a b c d e p:Int):Int :=
 if 0≤a∧a≤512∧0≤b∧b≤512∧0≤c∧c≤512∧0≤d∧d≤512∧0≤e∧e≤512∧1≤a+b+c+d+e∧a+b+c+d+e≤1020 then (if 1≤p∧p≤16 then 0 else 1) else 18
theorem rt_cases (a b c d e p:Int) :
  (((a < 0∨512 < a)∨(0≤a∧a≤512∧(b < 0∨512 < b))∨(0≤a∧a≤512∧0≤b∧b≤512∧(c < 0∨512 < c))∨(0≤a∧a≤512∧0≤b∧b≤512∧0≤c∧c≤512∧(d < 0∨512 < d))
   ∨ (0≤a∧a≤512∧0≤b∧b≤512∧0≤c∧c≤512∧0≤d∧d≤512∧(e < 0∨512 < e))
   ∨ (0≤a∧a≤512∧0≤b∧b≤512∧0≤c∧c≤512∧0≤d∧d≤512∧0≤e∧e≤512∧(a+b+c+d+e < 1∨1020 < a+b+c+d+e)))∧rt a b c d e p=18)
  ∨ ((0≤a∧a≤512∧0≤b∧b≤512∧0≤c∧c≤512∧0≤d∧d≤512∧0≤e∧e≤512∧1≤a+b+c+d+e∧a+b+c+d+e≤1020) ∧
    (((p < 1∨16 < p)∧rt a b c d e p=1)∨(1≤p∧p≤16∧rt a b c d e p=0))):=by
 unfold rt
 split
 ·rename_i h
  refine Or.inr ⟨h,?_⟩
  split <;> omega
 ·exact Or.inl ⟨by omega,rfl⟩
theorem rt_zero (a b c d e p:Int):rt a b c d e p=0↔(0≤a∧a≤512∧0≤b∧b≤512∧0≤c∧c≤512∧0≤d∧d≤512∧0≤e∧e≤512∧1≤a+b+c+d+e∧a+b+c+d+e≤1020)∧1≤p∧p≤16:=by
 rcases rt_cases a b c d e p with ⟨h,e⟩ | ⟨h,⟨h1,e⟩ | ⟨h1,h2,e⟩⟩ <;> rw [e] <;> omega
theorem fo_bd (n:Int):-1≤fo n∧fo n≤4:=by unfold fo;repeat' split <;> omega
theorem wd_bd (n:Int):0≤wd n∧wd n≤64:=by unfold wd;repeat' split <;> omega
theorem fo_cases (n:Int):((n < 0∨62 < n)∧fo n=-1)∨(0≤n∧n≤2∧fo n=0)∨(3≤n∧n≤6∧fo n=1)∨(7≤n∧n≤14∧fo n=2)∨(15≤n∧n≤30∧fo n=3)∨(31≤n∧n≤62∧fo n=4):=by
 unfold fo;repeat' split <;> omega
theorem wd_cases (n:Int):((n < 0∨5≤n)∧wd n=0)∨(n=0∧wd n=4)∨(n=1∧wd n=8)∨(n=2∧wd n=16)∨(n=3∧wd n=32)∨(n=4∧wd n=64):=by
 unfold wd;repeat' split <;> omega
end Wd
end Go.Proofs.YteiejjmhmmkdhaaGreat

/- What each function of the package fit, and of the document's own answer, returns. -/
namespace Go.Proofs.YteiejjmhmmkdhaaGreat
open Go.RowKit
namespace Wd
set_option maxHeartbeats 4000000 in
theorem words_c (n:Int) (h1:-9223372036854775808≤n) (h2:n≤9223372036854775807) (w:World) :
  Calls Tryz.prog 52 #[.int .i64 n] w fun e w'=>e=.returned (.int .i64 (wd n))∧w'=w:=by
 rcases wd_cases n with ⟨h | h,e⟩ | ⟨rfl,e⟩ | ⟨rfl,e⟩ | ⟨rfl,e⟩ | ⟨rfl,e⟩ | ⟨rfl,e⟩
 all_goals
  rw [e];clear e
  go_enter Tryz.func52,Tryz.ntmps52
  go_wp2
  go_ret
  exact⟨rfl,rfl⟩
set_option maxHeartbeats 16000000 in
theorem of_c (n:Int) (h1:-9223372036854775808≤n) (h2:n≤9223372036854775807) (w:World) :
  Calls Tryz.prog 41 #[.int .i64 n] w fun e w'=>e=.returned (.int .i64 (fo n))∧w'=w:=by
 have f0:wd 0=4:=rfl
 have f1:wd 1=8:=rfl
 have f2:wd 2=16:=rfl
 have f3:wd 3=32:=rfl
 have f4:wd 4=64:=rfl
 rcases fo_cases n with ⟨h | h,e⟩ | ⟨l0,l1,e⟩ | ⟨l0,l1,e⟩ | ⟨l0,l1,e⟩ | ⟨l0,l1,e⟩ | ⟨l0,l1,e⟩
 ·rw [e];clear e
  go_enter Tryz.func41,Tryz.ntmps41
  go_wp2_with (first | (go_at_call 52;((with_reducible refine (words_c _ ?_ ?_ _).mono ?_);(first | with_reducible assumption | omega);(first | with_reducible assumption | omega);rintro e w' ⟨rfl,rfl⟩)))
  go_ret
  exact⟨rfl,rfl⟩
 ·rw [e];clear e
  go_enter Tryz.func41,Tryz.ntmps41
  go_wp2_with (first | (go_at_call 52;((with_reducible refine (words_c _ ?_ ?_ _).mono ?_);(first | with_reducible assumption | omega);(first | with_reducible assumption | omega);rintro e w' ⟨rfl,rfl⟩)))
  go_ret
  exact⟨rfl,rfl⟩
 ·rw [e];clear e
  go_enter Tryz.func41,Tryz.ntmps41
  go_wp2_with (first | (go_at_call 52;((with_reducible refine (words_c _ ?_ ?_ _).mono ?_);(first | with_reducible assumption | omega);(first | with_reducible assumption | omega);rintro e w' ⟨rfl,rfl⟩)))
  refine wp_loop_rounds 1 ?_
  rw [rounds_succ]
  go_wp2_with (first | (go_at_call 52;((with_reducible refine (words_c _ ?_ ?_ _).mono ?_);(first | with_reducible assumption | omega);(first | with_reducible assumption | omega);rintro e w' ⟨rfl,rfl⟩)))
  go_ret
  exact⟨rfl,rfl⟩
 ·rw [e];clear e
  go_enter Tryz.func41,Tryz.ntmps41
  go_wp2_with (first | (go_at_call 52;((with_reducible refine (words_c _ ?_ ?_ _).mono ?_);(first | with_reducible assumption | omega);(first | with_reducible assumption | omega);rintro e w' ⟨rfl,rfl⟩)))
  refine wp_loop_rounds 2 ?_
  rw [rounds_succ]
  go_wp2_with (first | (go_at_call 52;((with_reducible refine (words_c _ ?_ ?_ _).mono ?_);(first | with_reducible assumption | omega);(first | with_reducible assumption | omega);rintro e w' ⟨rfl,rfl⟩)))
  rw [rounds_succ]
  go_wp2_with (first | (go_at_call 52;((with_reducible refine (words_c _ ?_ ?_ _).mono ?_);(first | with_reducible assumption | omega);(first | with_reducible assumption | omega);rintro e w' ⟨rfl,rfl⟩)))
  go_ret
  exact⟨rfl,rfl⟩
 ·rw [e];clear e
  go_enter Tryz.func41,Tryz.ntmps41
  go_wp2_with (first | (go_at_call 52;((with_reducible refine (words_c _ ?_ ?_ _).mono ?_);(first | with_reducible assumption | omega);(first | with_reducible assumption | omega);rintro e w' ⟨rfl,rfl⟩)))
  refine wp_loop_rounds 3 ?_
  rw [rounds_succ]
  go_wp2_with (first | (go_at_call 52;((with_reducible refine (words_c _ ?_ ?_ _).mono ?_);(first | with_reducible assumption | omega);(first | with_reducible assumption | omega);rintro e w' ⟨rfl,rfl⟩)))
  rw [rounds_succ]
  go_wp2_with (first | (go_at_call 52;((with_reducible refine (words_c _ ?_ ?_ _).mono ?_);(first | with_reducible assumption | omega);(first | with_reducible assumption | omega);rintro e w' ⟨rfl,rfl⟩)))
  rw [rounds_succ]
  go_wp2_with (first | (go_at_call 52;((with_reducible refine (words_c _ ?_ ?_ _).mono ?_);(first | with_reducible assumption | omega);(first | with_reducible assumption | omega);rintro e w' ⟨rfl,rfl⟩)))
  go_ret
  exact⟨rfl,rfl⟩
 ·rw [e];clear e
  go_enter Tryz.func41,Tryz.ntmps41
  go_wp2_with (first | (go_at_call 52;((with_reducible refine (words_c _ ?_ ?_ _).mono ?_);(first | with_reducible assumption | omega);(first | with_reducible assumption | omega);rintro e w' ⟨rfl,rfl⟩)))
  refine wp_loop_rounds 4 ?_
  rw [rounds_succ]
  go_wp2_with (first | (go_at_call 52;((with_reducible refine (words_c _ ?_ ?_ _).mono ?_);(first | with_reducible assumption | omega);(first | with_reducible assumption | omega);rintro e w' ⟨rfl,rfl⟩)))
  rw [rounds_succ]
  go_wp2_with (first | (go_at_call 52;((with_reducible refine (words_c _ ?_ ?_ _).mono ?_);(first | with_reducible assumption | omega);(first | with_reducible assumption | omega);rintro e w' ⟨rfl,rfl⟩)))
  rw [rounds_succ]
  go_wp2_with (first | (go_at_call 52;((with_reducible refine (words_c _ ?_ ?_ _).mono ?_);(first | with_reducible assumption | omega);(first | with_reducible assumption | omega);rintro e w' ⟨rfl,rfl⟩)))
  rw [rounds_succ]
  go_wp2_with (first | (go_at_call 52;((with_reducible refine (words_c _ ?_ ?_ _).mono ?_);(first | with_reducible assumption | omega);(first | with_reducible assumption | omega);rintro e w' ⟨rfl,rfl⟩)))
  go_ret
  exact⟨rfl,rfl⟩
 ·rw [e];clear e
  go_enter Tryz.func41,Tryz.ntmps41
  go_wp2_with (first | (go_at_call 52;((with_reducible refine (words_c _ ?_ ?_ _).mono ?_);(first | with_reducible assumption | omega);(first | with_reducible assumption | omega);rintro e w' ⟨rfl,rfl⟩)))
  refine wp_loop_rounds 5 ?_
  rw [rounds_succ]
  go_wp2_with (first | (go_at_call 52;((with_reducible refine (words_c _ ?_ ?_ _).mono ?_);(first | with_reducible assumption | omega);(first | with_reducible assumption | omega);rintro e w' ⟨rfl,rfl⟩)))
  rw [rounds_succ]
  go_wp2_with (first | (go_at_call 52;((with_reducible refine (words_c _ ?_ ?_ _).mono ?_);(first | with_reducible assumption | omega);(first | with_reducible assumption | omega);rintro e w' ⟨rfl,rfl⟩)))
  rw [rounds_succ]
  go_wp2_with (first | (go_at_call 52;((with_reducible refine (words_c _ ?_ ?_ _).mono ?_);(first | with_reducible assumption | omega);(first | with_reducible assumption | omega);rintro e w' ⟨rfl,rfl⟩)))
  rw [rounds_succ]
  go_wp2_with (first | (go_at_call 52;((with_reducible refine (words_c _ ?_ ?_ _).mono ?_);(first | with_reducible assumption | omega);(first | with_reducible assumption | omega);rintro e w' ⟨rfl,rfl⟩)))
  rw [rounds_succ]
  go_wp2_with (first | (go_at_call 52;((with_reducible refine (words_c _ ?_ ?_ _).mono ?_);(first | with_reducible assumption | omega);(first | with_reducible assumption | omega);rintro e w' ⟨rfl,rfl⟩)))
  go_ret
  exact⟨rfl,rfl⟩
end Wd
end Go.Proofs.YteiejjmhmmkdhaaGreat

/- Plain facts on numbers, for the words of chapter 1: no program is named here. -/
namespace Go.Proofs.YteiejjmhmmkdhaaGreat
open Go.RowKit
namespace Ww
def nu (w:Int):Int:=if w < 2147483648 then w / 2 else w / 2 - 2147483648
def isN (w:Int):Bool:=w % 2 == 1
def wd (n:Int):Int:=(2*n+1) % 4294967296
def fits (n:Int):Bool:=decide (-1073741824≤n) && decide (n≤1073741823)
def iv (n:Int):Int:=if fits n then wd n else 0
def nv (w:Int):Int:=if isN w then nu w else 0
def isD (w:Int):Bool:=!(w % 2 == 1) && !(w == 0)
def dv (w:Int):Int:=if isD w then w / 2 else 0
def isO (n:Int):Bool:=decide (1≤n) && decide (n≤2147483647)
def ov (n:Int):Int:=if isO n then 2*n else 0
def both (a b:Int):Bool:=isN a && isN b
def fl (a b:Int):Int:=if !(a.tmod b == 0) && (decide (a.tmod b < 0) != decide (b < 0)) then a.tdiv b - 1 else a.tdiv b
theorem wd_bd (n:Int):0≤wd n∧wd n≤4294967295:=by unfold wd;omega
theorem iv_bd (n:Int):0≤iv n∧iv n≤4294967295:=by
 have:=wd_bd n;unfold iv;split <;> omega
theorem ov_bd (n:Int):0≤ov n∧ov n≤4294967295:=by
 unfold ov;split
 ·rename_i h;simp [isO] at h;omega
 ·omega
theorem or1 (a:Int) (h0:0≤a) (h1:a≤4294967295) (h2:a % 2=0):bits .or .u32 a 1=a+1:=by
 rw [u32_or a 1 h0 (by omega) (by decide) (by decide)]
 obtain⟨k,hk⟩:∃ k:Nat,a.toNat=2*k:=⟨a.toNat / 2,by omega⟩
 have:a.toNat ||| (1:Int).toNat=2*k+1:=by
  rw [hk,show (1:Int).toNat=1 from rfl]
  have:=Nat.two_pow_add_eq_or_of_lt (i:=1) (b:=1) (by decide) k
  simp at this
  omega
 rw [this];omega
theorem or_shl (n:Int):bits .or .u32 (n % 4294967296*2 % 4294967296) 1=wd n:=by
 rw [or1 _ (by omega) (by omega) (by omega)];unfold wd;omega
end Ww
end Go.Proofs.YteiejjmhmmkdhaaGreat

/- What each function of the package word, and of the document's own answer, returns: the leaves. -/
namespace Go.Proofs.YteiejjmhmmkdhaaGreat
open Go.RowKit
namespace Ww
theorem wordOf_c (n:Int) (w:World) :
  Calls Tryz.prog 104 #[.int .i64 n] w fun e w'=>e=.returned (.tuple #[.int .u32 (iv n),.bool (fits n)])∧w=w':=by
 by_cases h1:n < -1073741824
 ·have hf:fits n=false:=by simp [fits];omega
  have hv:iv n=0:=by simp [iv,hf]
  rw [hf,hv];clear hf hv
  go_enter Tryz.func104,Tryz.ntmps104
  go_wp2
  go_ret2
  exact⟨rfl,rfl⟩
 ·by_cases h2:1073741823 < n
  ·have hf:fits n=false:=by simp [fits];omega
   have hv:iv n=0:=by simp [iv,hf]
   rw [hf,hv];clear hf hv
   have h1':-1073741824≤n:=by omega
   go_enter Tryz.func104,Tryz.ntmps104
   go_wp2
   go_ret2
   exact⟨rfl,rfl⟩
  ·have hf:fits n=true:=by simp [fits];omega
   have hv:iv n=wd n:=by simp [iv,hf]
   rw [hf,hv];clear hf hv
   have h1':-1073741824≤n:=by omega
   have h2':n≤1073741823:=by omega
   have k:=Lib.hid (or_shl n)
   go_enter Tryz.func104,Tryz.ntmps104
   go_wp2
   go_ret2
   rw [← k.out]
   exact⟨rfl,rfl⟩
theorem refInt_c (n:Int) (w:World) :
  Calls Tryz.prog 70 #[.int .i64 n] w fun e w'=>e=.returned (.tuple #[.int .u32 (iv n),.bool (fits n)])∧w=w':=by
 by_cases h1:n < -1073741824
 ·have hf:fits n=false:=by simp [fits];omega
  have hv:iv n=0:=by simp [iv,hf]
  rw [hf,hv];clear hf hv
  go_enter Tryz.func70,Tryz.ntmps70
  go_wp2
  go_ret2
  exact⟨rfl,rfl⟩
 ·by_cases h2:1073741823 < n
  ·have hf:fits n=false:=by simp [fits];omega
   have hv:iv n=0:=by simp [iv,hf]
   rw [hf,hv];clear hf hv
   have h1':-1073741824≤n:=by omega
   go_enter Tryz.func70,Tryz.ntmps70
   go_wp2
   go_ret2
   exact⟨rfl,rfl⟩
  ·have hf:fits n=true:=by simp [fits];omega
   have hv:iv n=wd n:=by simp [iv,hf]
   rw [hf,hv];clear hf hv
   have h1':-1073741824≤n:=by omega
   have h2':n≤1073741823:=by omega
   have k:=Lib.hid (or_shl n)
   go_enter Tryz.func70,Tryz.ntmps70
   go_wp2
   go_ret2
   rw [← k.out]
   exact⟨rfl,rfl⟩
end Ww
end Go.Proofs.YteiejjmhmmkdhaaGreat

/- What each function of the package word, and of the document's own answer, returns: those that call others. -/
namespace Go.Proofs.YteiejjmhmmkdhaaGreat
open Go.RowKit
namespace Ww
theorem ret_u32 {m n:Int} (h:m=n):Ending.returned (.int .u32 m)=.returned (.int .u32 n):=by rw [h]
theorem Int_c (n:Int) (w:World) :
  Calls Tryz.prog 85 #[.int .i64 n] w fun e w'=>e=.returned (.tuple #[.int .u32 (iv n),.bool (fits n)])∧w=w':=by
 go_enter Tryz.func85,Tryz.ntmps85
 go_wp2_with (first | (go_at_call 104;((with_reducible refine (wordOf_c _ _).mono ?_);rintro e w' ⟨rfl,rfl⟩)))
 go_ret2
 exact⟨rfl,rfl⟩
theorem Oop_c (a:Int) (w:World) :
  Calls Tryz.prog 86 #[.int .i64 a] w fun e w'=>e=.returned (.int .u32 (ov a))∧w=w':=by
 by_cases h1:a < 1
 ·go_enter Tryz.func86,Tryz.ntmps86
  go_wp2
  go_ret
  exact⟨ret_u32 (by simp [ov,isO];omega),rfl⟩
 ·by_cases h2:2147483647 < a
  ·have h1':1≤a:=by omega
   go_enter Tryz.func86,Tryz.ntmps86
   go_wp2
   go_ret
   exact⟨ret_u32 (by simp [ov,isO];omega),rfl⟩
  ·have h1':1≤a:=by omega
   have h2':a≤2147483647:=by omega
   go_enter Tryz.func86,Tryz.ntmps86
   go_wp2
   go_ret
   exact⟨ret_u32 (by simp [ov,isO];omega),rfl⟩
theorem refOop_c (a:Int) (w:World) :
  Calls Tryz.prog 71 #[.int .i64 a] w fun e w'=>e=.returned (.int .u32 (ov a))∧w=w':=by
 by_cases h1:a < 1
 ·go_enter Tryz.func71,Tryz.ntmps71
  go_wp2
  go_ret
  exact⟨ret_u32 (by simp [ov,isO];omega),rfl⟩
 ·by_cases h2:2147483647 < a
  ·have h1':1≤a:=by omega
   go_enter Tryz.func71,Tryz.ntmps71
   go_wp2
   go_ret
   exact⟨ret_u32 (by simp [ov,isO];omega),rfl⟩
  ·have h1':1≤a:=by omega
   have h2':a≤2147483647:=by omega
   go_enter Tryz.func71,Tryz.ntmps71
   go_wp2
   go_ret
   exact⟨ret_u32 (by simp [ov,isO];omega),rfl⟩
end Ww
end Go.Proofs.YteiejjmhmmkdhaaGreat

/- What each function of the package word, and of the document's own answer, returns: reckoning. -/
namespace Go.Proofs.YteiejjmhmmkdhaaGreat
open Go.RowKit
namespace Ww
end Ww
end Go.Proofs.YteiejjmhmmkdhaaGreat

/- Objects that are kept for ever, plainly; how the landed package keeps them; what its reading calls answer. -/
namespace Go.Proofs.YteiejjmhmmkdhaaGreat
open Go.RowKit
set_option linter.unusedVariables false
set_option maxRecDepth 20000
namespace Wd
abbrev Ob8:=Int × List Int
abbrev b64 (x:Int):Prop:=-9223372036854775808≤x∧x≤9223372036854775807
abbrev b32 (x:Int):Prop:=0≤x∧x≤4294967295
def hasL (L:List Ob8) (id:Int):Bool:=decide (4≤id∧id < 4+(L.length:Int))
def obL (L:List Ob8) (id:Int):Ob8:=L.getD (id - 4).toNat (0,[])
def clsL (L:List Ob8) (id:Int):Int:=if hasL L id then (obL L id).1 else -1
def fldL (L:List Ob8) (id:Int):Int:=if hasL L id then ((obL L id).2.length:Int) else -1
def inO (L:List Ob8) (id i:Int):Bool:=hasL L id && decide (0≤i∧i < ((obL L id).2.length:Int))
def gvL (L:List Ob8) (id i:Int):Int:=if inO L id i then (obL L id).2.getD i.toNat 0 else 0
def okA (c n:Int):Bool:=decide (0≤c∧c≤4095) && decide (0≤n∧n≤62)
def newO (c n:Int):Ob8:=(c,List.replicate n.toNat 2)
def alL (L:List Ob8) (c n:Int):List Ob8:=if okA c n then L++[newO c n] else L
def alI (L:List Ob8) (c n:Int):Int:=if okA c n then 4+(L.length:Int) else -1
def puB (L:List Ob8) (id i w:Int):Bool:=inO L id i && decide (w≠0)
def puO (x:Ob8) (i w:Int):Ob8:=(x.1,x.2.set i.toNat w)
def puL (L:List Ob8) (id i w:Int):List Ob8:=if puB L id i w then L.set (id - 4).toNat (puO (obL L id) i w) else L
def swB8 (L:List Ob8) (a b:Int):Bool:=hasL L a && hasL L b
def swL (L:List Ob8) (a b:Int):List Ob8:=if swB8 L a b then (L.set (a - 4).toNat (obL L b)).set (b - 4).toNat (obL L a) else L
theorem hasL_y {L:List Ob8} {id:Int} (h:hasL L id=true):∃ k x,id=4+(k:Nat)∧k < L.length∧L[k]?=some x∧obL L id=x:=by
 unfold hasL at h
 rw [decide_eq_true_eq] at h
 refine⟨(id - 4).toNat,L[(id - 4).toNat]'(by omega),by omega,by omega,by simp,?_⟩
 unfold obL
 rw [List.getD_eq_getElem?_getD,List.getElem?_eq_getElem (by omega)]
 rfl
theorem hasL_at {L:List Ob8} {k:Nat} {x:Ob8} (h:L[k]?=some x):hasL L (4+(k:Int))=true∧obL L (4+(k:Int))=x:=by
 have hk:=(List.getElem?_eq_some_iff.1 h).1
 refine⟨by unfold hasL;rw [decide_eq_true_eq];omega,?_⟩
 unfold obL
 rw [show (4+(k:Int) - 4).toNat=k by omega,List.getD_eq_getElem?_getD,h]
 rfl
structure Rq8 (w:World) (b:Nat) (x:Ob8):Prop where
 h:w.cell? ⟨b,0,none⟩=some (.int .u32 (pk x.1 (x.2.length:Int) 0))
 c:∀ j y,x.2[j]?=some y→w.cell? ⟨b,1+j,none⟩=some (.int .u32 y)
 z:∀ j,w.frozen? ⟨b,j,none⟩=false
 o:0≤x.1∧x.1≤4095∧x.2.length≤62
 u:∀ y∈x.2,b32 y
def rwV (b:Nat) (x:Ob8):Value:=.slice (some ⟨b,0,none⟩) (x.2.length+1) (x.2.length+1)
structure ID (w:World) (p:Nat) (v:Value) (xs:List Value) (B:Nat→Nat) (L:List Ob8):Prop where
 c0:w.cell? ⟨p,0,none⟩=some v
 z:w.frozen? ⟨p,0,none⟩=false
 row:w.ownsRow 0 87 1 v L.length xs
 at':∀ k x,L[k]?=some x→xs[k]?=some (rwV (B k) x)∧Rq8 w (B k) x
 inj:∀ j k,j < L.length→k < L.length→B j=B k→j=k
 ap:∀ k,k < L.length→B k≠p∧v.ownBlock≠some (B k)
 vp:v.ownBlock≠some p
def unD (p:Nat) (v:Value) (B:Nat→Nat) (n:Nat):Nat→Prop:=fun k=>k=p∨v.ownBlock=some k∨∃ j,j < n∧k=B j
section
variable {w w':World} {p:Nat} {v:Value} {xs:List Value} {B:Nat→Nat} {L:List Ob8}
theorem Rq8.same {b:Nat} {x:Ob8} (h:Rq8 w b x) (e:w'.heap[b]?=w.heap[b]?):Rq8 w' b x :=
 ⟨(World.cell?_of_block (a:=⟨b,0,none⟩) e).trans h.h,fun j y hy=>(World.cell?_of_block (a:=⟨b,1+j,none⟩) e).trans (h.c j y hy),fun j=>(World.frozen?_of_block (a:=⟨b,j,none⟩) e).trans (h.z j),h.o,h.u⟩
theorem Rq8.lt {b:Nat} {x:Ob8} (h:Rq8 w b x):b < w.heap.size:=World.block_lt_of_cell? w _ h.h
theorem own_lt {T:TypeId} {s n:Nat} (h:w.ownsRow 0 T s v n xs):∀ k,v.ownBlock=some k→k < w.heap.size:=by
 intro k hk
 rcases h.2 with ⟨rfl,_⟩ | ⟨g,cap,cur,rfl,_,h3,_⟩
 ·cases hk
 ·have hk':g=k:=by simpa [Value.ownBlock] using hk
  subst hk'
  exact (Array.getElem?_eq_some_iff.1 h3).1
theorem ID.lt (h:ID w p v xs B L):∀ k,unD p v B L.length k→k < w.heap.size:=by
 rintro k (rfl | hk | ⟨j,hj,rfl⟩)
 ·exact World.block_lt_of_cell? w _ h.c0
 ·exact own_lt h.row k hk
 ·exact (h.at' j L[j] (by simp)).2.lt
theorem own_same {T:TypeId} {s n:Nat} (h:w.ownsRow 0 T s v n xs) (e:∀ k,v.ownBlock=some k→w'.heap[k]?=w.heap[k]?) (hs:w.heap.size≤w'.heap.size):w'.ownsRow 0 T s v n xs:=by
 refine⟨h.1,?_⟩
 rcases h.2 with h | ⟨g,cap,cur,rfl,h2,h3,h4⟩
 ·exact Or.inl h
 ·exact Or.inr ⟨g,cap,cur,rfl,h2,(e g rfl).trans h3,h4⟩
theorem ID.same (h:ID w p v xs B L) (hs:w.heap.size≤w'.heap.size) (e:∀ k,unD p v B L.length k→w'.heap[k]?=w.heap[k]?):ID w' p v xs B L :=
 ⟨(World.cell?_of_block (a:=⟨p,0,none⟩) (e p (Or.inl rfl))).trans h.c0,(World.frozen?_of_block (a:=⟨p,0,none⟩) (e p (Or.inl rfl))).trans h.z,own_same h.row (fun k hk=>e k (Or.inr (Or.inl hk))) hs,
  fun k x hx=>⟨(h.at' k x hx).1,(h.at' k x hx).2.same (e _ (Or.inr (Or.inr ⟨k,(List.getElem?_eq_some_iff.1 hx).1,rfl⟩)))⟩,h.inj,h.ap,h.vp⟩
theorem ID.keep (h:ID w p v xs B L) (b:Below w.heap.size w w'):ID w' p v xs B L:=h.same b.size (fun k hk=>b.block k (h.lt k hk))
theorem own_form {T:TypeId} {s n:Nat} (h:w.ownsRow 0 T s v n xs):∃ ad cap,v=.slice ad n cap∧(∀ g o e,ad=some ⟨g,o,e⟩→o=0∧e=none∧v.ownBlock=some g):=by
 rcases h.2 with ⟨rfl,h2,h3⟩ | ⟨g,cap,cur,rfl,_⟩
 ·exact⟨none,0,by first | rfl | simp_all,by rintro g o e ⟨⟩⟩
 ·exact⟨some ⟨g,0,none⟩,cap,rfl,by rintro g o e ⟨⟩;exact⟨rfl,rfl,rfl⟩⟩
end
end Wd
end Go.Proofs.YteiejjmhmmkdhaaGreat

/- What the reading calls of the landed Ideal answer. -/
namespace Go.Proofs.YteiejjmhmmkdhaaGreat
open Go.RowKit
set_option linter.unusedVariables false
set_option maxRecDepth 20000
namespace Wd
section
variable {w w':World} {p:Nat} {v:Value} {xs:List Value} {B:Nat→Nat} {L:List Ob8}
abbrev pV (p:Nat):Value:=.pointer (some ⟨p,0,none⟩)
theorem own_cell {e:TypeId} {g n cap k s:Nat} {y:Value} (h:w.ownsRow 0 e s (.slice (some ⟨g,0,none⟩) n cap) n xs) (hx:xs[k]?=some y):w.cell? ⟨g,k,none⟩=some y:=by
 have hk:=(List.getElem?_eq_some_iff.1 hx).1
 rw [h.cellAt k (by have:=h.1;omega),hx]
theorem own_froz {e:TypeId} {g n cap s:Nat} (h:w.ownsRow 0 e s (.slice (some ⟨g,0,none⟩) n cap) n xs) (k:Nat):w.frozen? ⟨g,k,none⟩=false:=by
 rcases h.2 with ⟨e,_⟩ | ⟨g',cap',cur,e,_,h3,_⟩
 ·cases e
 ·cases e
  simp [World.frozen?,h3]
theorem ilen_c (h:ID w p v xs B L):Calls Tryz.prog 36 #[pV p] w fun e w'=>e=.returned (.int .i64 (L.length:Int))∧w'=w:=by
 obtain⟨ad,cap,rfl,_⟩:=own_form h.row
 have c0:=h.c0
 clear h
 go_enter Tryz.func36,Tryz.ntmps36
 go_wp2
 go_ret
 exact⟨rfl,rfl⟩
theorem ihas_c (h:ID w p v xs B L) (id:Int) (hi:b64 id) (hl:L.length≤100000):Calls Tryz.prog 38 #[pV p,.int .i64 id] w fun e w'=>e=.returned (.bool (hasL L id))∧w'=w:=by
 obtain⟨ad,cap,rfl,_⟩:=own_form h.row
 have c0:=h.c0
 clear h
 by_cases h4:4≤id
 ·have hw:IntKind.i64.wrap (id - 4)=id - 4:=by rw [IntKind.wrap_i64];omega
  have e:hasL L id=decide (id - 4 < (L.length:Int)):=by unfold hasL;rw [decide_eq_decide];omega
  rw [e];clear e
  go_enter Tryz.func38,Tryz.ntmps38
  go_wp2
  go_ret
  exact⟨rfl,rfl⟩
 ·have e:hasL L id=false:=by unfold hasL;rw [decide_eq_false_iff_not];omega
  rw [e];clear e
  go_enter Tryz.func38,Tryz.ntmps38
  go_wp2
  go_ret
  exact⟨rfl,rfl⟩
theorem irow_c (h:ID w p v xs B L) {k:Nat} {x:Ob8} (hx:L[k]?=some x) (hl:L.length≤100000):Calls Tryz.prog 61 #[pV p,.int .i64 (4+(k:Int))] w fun e w'=>e=.returned (rwV (B k) x)∧w'=w:=by
 have hk:=(List.getElem?_eq_some_iff.1 hx).1
 have hr:=h.row
 have hxs:=(h.at' k x hx).1
 obtain⟨ad,cap,rfl,hf⟩:=own_form h.row
 have c0:=h.c0
 rcases hr.2 with ⟨e,e2⟩ | ⟨g,cap',cur,e,_⟩
 ·omega
 ·cases e
  have hc:w.cell? ⟨g,k,none⟩=some (rwV (B k) x):=own_cell hr hxs
  have hw:IntKind.i64.wrap (4+(k:Int) - 4)=(k:Int):=by rw [IntKind.wrap_i64];omega
  clear h hr hf hx
  unfold rwV at *
  go_enter Tryz.func61,Tryz.ntmps61
  go_wp2
  go_ret
  exact⟨rfl,rfl⟩
theorem hok_o {x:Ob8} (o:0≤x.1∧x.1≤4095∧x.2.length≤62):hok x.1 (x.2.length:Int) 0=true:=by rw [hok_iff];omega
theorem icls_c (h:ID w p v xs B L) (id:Int) (hi:b64 id) (hl:L.length≤100000):Calls Tryz.prog 34 #[pV p,.int .i64 id] w fun e w'=>e=.returned (.int .i64 (clsL L id))∧Below w.heap.size w w':=by
 have P:=Lib.hid (ihas_c h id hi hl)
 cases hh:hasL L id with
 | false =>
  rw [hh] at P
  have e:clsL L id=-1:=by unfold clsL;rw [hh];rfl
  rw [e];clear e h hh
  go_enter Tryz.func34,Tryz.ntmps34
  go_wp2_with (first | (go_at_call 38;(refine (P.out).mono ?_);rintro e w2 ⟨rfl,hw2⟩;subst w2))
  go_ret
  exact⟨rfl,Below.refl _ _⟩
 | true =>
  rw [hh] at P
  obtain⟨k,x,rfl,hk,hx,ho⟩:=hasL_y hh
  have e:clsL L (4+(k:Int))=x.1:=by unfold clsL;rw [hh,ho];rfl
  rw [e];clear e
  have PR:=Lib.hid (irow_c h hx hl)
  have hr:=(h.at' k x hx).2
  have ch:=hr.h
  have hb:=Lib.hid (pk_bd x.1 (x.2.length:Int) 0)
  have PC:=Lib.hid (Class_c (pk x.1 (x.2.length:Int) 0) hb.out.1 hb.out.2)
  rw [(pk_open _ _ _ (hok_o hr.o)).2.1] at PC
  unfold rwV at PR
  clear h hr hh hx ho hb
  generalize pk x.1 (x.2.length:Int) 0=q at *
  go_enter Tryz.func34,Tryz.ntmps34
  go_wp2_with (first | (go_at_call 38;(refine (P.out).mono ?_);rintro e w2 ⟨rfl,hw2⟩;subst w2) | (go_at_call 61;(refine (PR.out).mono ?_);rintro e w2 ⟨rfl,hw2⟩;subst w2) | (go_at_call 55;(refine (PC.out _).mono ?_);rintro e w2 ⟨rfl,hw2⟩;subst w2))
  go_ret
  exact⟨rfl,drewK _ 1⟩
theorem ifld_c (h:ID w p v xs B L) (id:Int) (hi:b64 id) (hl:L.length≤100000):Calls Tryz.prog 35 #[pV p,.int .i64 id] w fun e w'=>e=.returned (.int .i64 (fldL L id))∧Below w.heap.size w w':=by
 have P:=Lib.hid (ihas_c h id hi hl)
 cases hh:hasL L id with
 | false =>
  rw [hh] at P
  have e:fldL L id=-1:=by unfold fldL;rw [hh];rfl
  rw [e];clear e h hh
  go_enter Tryz.func35,Tryz.ntmps35
  go_wp2_with (first | (go_at_call 38;(refine (P.out).mono ?_);rintro e w2 ⟨rfl,hw2⟩;subst w2))
  go_ret
  exact⟨rfl,Below.refl _ _⟩
 | true =>
  rw [hh] at P
  obtain⟨k,x,rfl,hk,hx,ho⟩:=hasL_y hh
  have e:fldL L (4+(k:Int))=(x.2.length:Int):=by unfold fldL;rw [hh,ho];rfl
  rw [e];clear e
  have PR:=Lib.hid (irow_c h hx hl)
  have hr:=(h.at' k x hx).2
  have ch:=hr.h
  have hb:=Lib.hid (pk_bd x.1 (x.2.length:Int) 0)
  have PC:=Lib.hid (Size_c (pk x.1 (x.2.length:Int) 0) hb.out.1 hb.out.2)
  rw [(pk_open _ _ _ (hok_o hr.o)).2.2.1] at PC
  unfold rwV at PR
  clear h hr hh hx ho hb
  generalize pk x.1 (x.2.length:Int) 0=q at *
  go_enter Tryz.func35,Tryz.ntmps35
  go_wp2_with (first | (go_at_call 38;(refine (P.out).mono ?_);rintro e w2 ⟨rfl,hw2⟩;subst w2) | (go_at_call 61;(refine (PR.out).mono ?_);rintro e w2 ⟨rfl,hw2⟩;subst w2) | (go_at_call 56;(refine (PC.out _).mono ?_);rintro e w2 ⟨rfl,hw2⟩;subst w2))
  go_ret
  exact⟨rfl,drewK _ 1⟩
def fadL (L:List Ob8) (B:Nat→Nat) (id i:Int):Option Addr:=if inO L id i then some ⟨B (id - 4).toNat,1+i.toNat,none⟩ else none
theorem inO_no {L:List Ob8} {id i:Int} (h:¬ (0≤i∧i < fldL L id)):inO L id i=false:=by
 unfold inO fldL at *
 cases hh:hasL L id with
 | false=>rfl
 | true =>
  rw [hh,if_pos rfl] at h
  rw [decide_eq_false h];rfl
theorem inO_yes {L:List Ob8} {id i:Int} (h:0≤i∧i < fldL L id):∃ k x j,id=4+(k:Nat)∧k < L.length∧L[k]?=some x∧obL L id=x∧i=(j:Nat)∧j < x.2.length∧inO L id i=true:=by
 unfold fldL at h
 cases hh:hasL L id with
 | false=>rw [hh] at h;simp at h;omega
 | true =>
  rw [hh,if_pos rfl] at h
  obtain⟨k,x,e,hk,hx,ho⟩:=hasL_y hh
  rw [ho] at h
  refine⟨k,x,i.toNat,e,hk,hx,ho,by omega,by omega,?_⟩
  unfold inO;rw [hh,ho,decide_eq_true h];rfl
theorem ifield_c (h:ID w p v xs B L) (id i:Int) (hi:b64 id) (hj:b64 i) (hl:L.length≤100000):Calls Tryz.prog 37 #[pV p,.int .i64 id,.int .i64 i] w fun e w'=>e=.returned (.pointer (fadL L B id i))∧Below w.heap.size w w':=by
 by_cases h0:0≤i
 ·have P:=Lib.hid (ifld_c h id hi hl)
  by_cases h1:i < fldL L id
  ·obtain⟨k,x,j,rfl,hk,hx,ho,rfl,hjx,hin⟩:=inO_yes ⟨h0,h1⟩
   have e:fadL L B (4+(k:Int)) (j:Int)=some ⟨B k,1+j,none⟩:=by
    unfold fadL;rw [hin,if_pos rfl,show (4+(k:Int) - 4).toNat=k by omega,Int.toNat_natCast]
   rw [e];clear e
   have PR:=Lib.hid (fun (w2:World) (b:Below w.heap.size w w2)=>irow_c (h.keep b) hx hl)
   have hlen:=(h.at' k x hx).2.o.2.2
   have hf:fldL L (4+(k:Int))=(x.2.length:Int):=by unfold fldL;rw [(hasL_at hx).1,ho];rfl
   rw [hf] at P h1
   have hw:IntKind.i64.wrap (1+(j:Int))=((1+j:Nat):Int):=by rw [IntKind.wrap_i64];omega
   unfold rwV at PR
   clear h hx ho hin hf
   have hj2:1+j < x.2.length+1:=by omega
   generalize x.2.length=q at *
   go_enter Tryz.func37,Tryz.ntmps37
   go_wp2_with (first | (go_at_call 35;(refine (P.out).mono ?_);rintro e w2 ⟨rfl,hw2⟩;replace hw2:=Lib.hid hw2) | (go_at_call 61;(refine (PR.out _ hw2.out).mono ?_);rintro e w3 ⟨rfl,hw3⟩;subst w3))
   go_ret
   exact⟨by simp,hw2.out⟩
  ·have e:fadL L B id i=none:=by unfold fadL;rw [inO_no (by omega)];rfl
   rw [e];clear e h
   generalize fldL L id=q at *
   go_enter Tryz.func37,Tryz.ntmps37
   go_wp2_with (first | (go_at_call 35;(refine (P.out).mono ?_);rintro e w2 ⟨rfl,hw2⟩;replace hw2:=Lib.hid hw2))
   go_ret
   exact⟨rfl,hw2.out⟩
 ·have e:fadL L B id i=none:=by unfold fadL;rw [inO_no (by omega)];rfl
  rw [e];clear e h
  go_enter Tryz.func37,Tryz.ntmps37
  go_wp2
  go_ret
  exact⟨rfl,Below.refl _ _⟩
theorem iget_c (h:ID w p v xs B L) (id i:Int) (hi:b64 id) (hj:b64 i) (hl:L.length≤100000):Calls Tryz.prog 33 #[pV p,.int .i64 id,.int .i64 i] w fun e w'=>e=.returned (.tuple #[.int .u32 (gvL L id i),.bool (inO L id i)])∧Below w.heap.size w w':=by
 have P:=Lib.hid (ifield_c h id i hi hj hl)
 by_cases h1:0≤i∧i < fldL L id
 ·obtain⟨k,x,j,rfl,hk,hx,ho,rfl,hjx,hin⟩:=inO_yes h1
  have e:fadL L B (4+(k:Int)) (j:Int)=some ⟨B k,1+j,none⟩:=by
   unfold fadL;rw [hin,if_pos rfl,show (4+(k:Int) - 4).toNat=k by omega,Int.toNat_natCast]
  rw [e] at P;clear e
  have eg:gvL L (4+(k:Int)) (j:Int)=x.2[j]:=by
   unfold gvL;rw [hin,if_pos rfl,ho,Int.toNat_natCast,List.getD_eq_getElem?_getD,List.getElem?_eq_getElem hjx];rfl
  rw [eg,hin];clear eg
  have hc:=Lib.hid (fun (w2:World) (b:Below w.heap.size w w2)=>(h.keep b).at' k x hx |>.2.c j x.2[j] (by simp))
  clear h hx ho hin h1
  go_enter Tryz.func33,Tryz.ntmps33
  go_wp2_with (first | (go_at_call 37;(refine (P.out).mono ?_);rintro e w2 ⟨rfl,hw2⟩;have c2:=hc.out _ hw2;replace hw2:=Lib.hid hw2))
  go_returns
  exact⟨rfl,hw2.out⟩
 ·have hin:=inO_no h1
  have e:fadL L B id i=none:=by unfold fadL;rw [hin];rfl
  have eg:gvL L id i=0:=by unfold gvL;rw [hin];rfl
  rw [e] at P
  rw [eg,hin];clear e eg h hin h1
  go_enter Tryz.func33,Tryz.ntmps33
  go_wp2_with (first | (go_at_call 37;(refine (P.out).mono ?_);rintro e w2 ⟨rfl,hw2⟩;replace hw2:=Lib.hid hw2))
  go_returns
  exact⟨rfl,hw2.out⟩
end
end Wd
end Go.Proofs.YteiejjmhmmkdhaaGreat

/- Names, judged by the document: which byte is of which kind. -/
namespace Go.Proofs.YteiejjmhmmkdhaaGreat
open Go.RowKit
set_option linter.unusedVariables false
set_option maxRecDepth 20000
namespace Wd
def inR (c:Nat) (b:ByteArray):Bool:=b.data.toList.any fun x=>x.toNat == c
def NotIn (c:Nat) (b:ByteArray) (k:Nat):Prop:=∀ j,j < k→∀ x,b.data.toList[j]?=some x→x.toNat≠c
theorem NotIn.start (c:Nat) (b:ByteArray):NotIn c b 0:=fun j hj=>by omega
theorem ba_at {b:ByteArray} {k:Nat} (h:k < b.size):b.data.toList[k]?=some b[k]:=by
 rw [List.getElem?_eq_getElem (by simpa using h)];rfl
theorem NotIn.step {c:Nat} {b:ByteArray} {k:Nat} (h:NotIn c b k) (hk:k < b.size) (e:b[k].toNat≠c):NotIn c b (k+1):=by
 intro j hj x hx
 rcases (show j < k∨j=k by omega) with hj | rfl
 ·exact h j hj x hx
 ·rw [ba_at hk] at hx;cases hx;exact e
theorem NotIn.last {c:Nat} {b:ByteArray} {k:Nat} (h:NotIn c b k) (hk:¬ k < b.size):inR c b=false:=by
 unfold inR
 rw [List.any_eq_false]
 intro x hx
 obtain⟨j,hj⟩:=List.getElem?_of_mem hx
 have hl:=(List.getElem?_eq_some_iff.1 hj).1
 have hs:b.data.toList.length=b.size:=Array.length_toList
 have:=h j (by omega) x hj
 simpa using this
def letterR (c:Nat):Bool:=decide (97≤c∧c≤122∨65≤c∧c≤90)
end Wd
end Go.Proofs.YteiejjmhmmkdhaaGreat

/- Names, judged by the document. -/
namespace Go.Proofs.YteiejjmhmmkdhaaGreat
open Go.RowKit
set_option linter.unusedVariables false
set_option maxRecDepth 20000
namespace Wd
def argsFrom:List UInt8→Nat→Nat→Nat→Option (Nat × Nat)
 | [],_,s,c=>some (s,c)
 | x :: R,i,s,c =>
  if inR x.toNat ⟨#[43,45,42,47,60,62,61,126,38,124,37]⟩=true then argsFrom R (i+1) (s+1) c
  else if x.toNat=58∧0 < i then argsFrom R (i+1) s (c+1)
  else if letterR x.toNat=true∨0 < i∧48≤x.toNat∧x.toNat≤57 then argsFrom R (i+1) s c
  else none
def argsR (b:ByteArray):Int :=
 if 1≤b.size∧b.size≤16 then
  match argsFrom b.data.toList 0 0 0 with
  | none=>-1
  | some (s,c)=>if s=b.size∧s≤2 then 1 else if 0 < s then -1 else (c:Int)
 else -1
structure AgR (b:ByteArray) (k s c:Nat):Prop where
 eq:argsFrom b.data.toList 0 0 0=argsFrom (b.data.toList.drop k) k s c
 s:s≤k
 c:c≤k
theorem AgR.start (b:ByteArray):AgR b 0 0 0:=⟨rfl,by omega,by omega⟩
theorem ba_drop {b:ByteArray} {k:Nat} (h:k < b.size):b.data.toList.drop k=b[k] :: b.data.toList.drop (k+1):=by
 obtain⟨hk,e⟩:=List.getElem?_eq_some_iff.1 (ba_at h)
 rw [← e]
 exact List.drop_eq_getElem_cons hk
section
variable {b:ByteArray} {k s c:Nat}
theorem AgR.bad (h:AgR b k s c) (hz:1≤b.size∧b.size≤16) (hk:k < b.size) (e:inR b[k].toNat ⟨#[43,45,42,47,60,62,61,126,38,124,37]⟩=false) (e2:¬ (b[k].toNat=58∧0 < k)) (e3:¬ (letterR b[k].toNat=true∨0 < k∧48≤b[k].toNat∧b[k].toNat≤57)):argsR b=-1:=by
 unfold argsR
 rw [if_pos hz,h.eq,ba_drop hk,argsFrom,if_neg (by rw [e];decide),if_neg e2,if_neg e3]
theorem AgR.last (h:AgR b k s c) (hz:1≤b.size∧b.size≤16) (hk:¬ k < b.size):argsR b=if s=b.size∧s≤2 then 1 else if 0 < s then -1 else (c:Int):=by
 have hs:b.data.toList.length=b.size:=Array.length_toList
 unfold argsR
 rw [if_pos hz,h.eq,List.drop_eq_nil_of_le (by omega)]
 rfl
end
theorem args_short {b:ByteArray} (hz:¬ (1≤b.size∧b.size≤16)):argsR b=-1:=by unfold argsR;rw [if_neg hz]
end Wd
end Go.Proofs.YteiejjmhmmkdhaaGreat

/- A dict of names, plainly; worlds that change but for some blocks. -/
namespace Go.Proofs.YteiejjmhmmkdhaaGreat
open Go.RowKit
set_option linter.unusedVariables false
set_option maxRecDepth 20000
namespace Wd
abbrev I64 (x:Int):Prop:=-9223372036854775808≤x∧x≤9223372036854775807
structure Ch (F:Nat→Prop) (w w':World):Prop where
 os:w'.os=w.os
 tape:w'.tape=w.tape
 output:w'.output=w.output
 size:w.heap.size≤w'.heap.size
 block:∀ k,k < w.heap.size→¬ F k→w'.heap[k]?=w.heap[k]?
def Newer (F F':Nat→Prop) (s:Nat):Prop:=∀ k,F' k→F k∨s≤k
theorem Ch.refl (F:Nat→Prop) (w:World):Ch F w w:=⟨rfl,rfl,rfl,Nat.le_refl _,fun _ _ _=>rfl⟩
theorem Ch.set {F:Nat→Prop} {w w1:World} (h:Ch F w w1) (a:Addr) (ha:F a.block) (v:Value):Ch F w (w1.setCell a v) :=
 ⟨h.os,h.tape,h.output,by simpa [World.setCell] using h.size,fun k hk hF=>(Below.heap_setCell _ _ _ _ (fun e=>hF (by rw [e];exact ha))).trans (h.block k hk hF)⟩
theorem Ch.drew {F:Nat→Prop} {w w1:World} (h:Ch F w w1):Ch F w w1.drew:=⟨h.os,h.tape,h.output,h.size,h.block⟩
theorem below_ch {w wr w1:World} {F:Nat→Prop} (h:Below w.heap.size w wr) (c:Ch F wr w1) (hF:∀ k,F k→w.heap.size≤k):Below w.heap.size w w1 :=
 ⟨c.os.trans h.os,c.tape.trans h.tape,c.output.trans h.output,Nat.le_trans h.size c.size,fun k hk=>(c.block k (Nat.lt_of_lt_of_le hk h.size) (fun hf=>by have:=hF k hf;omega)).trans (h.block k hk)⟩
abbrev Dst:=List (Int × Int)
def D0:Dst:=List.replicate 16 (-1,0)
def plc (sel:Int) (k:Nat):Nat:=(sel.toNat % 16*7+k) % 16
def selA (D:Dst) (i:Nat):Int:=(D.getD i (-1,0)).1
def metA (D:Dst) (i:Nat):Int:=(D.getD i (-1,0)).2
def findF (D:Dst) (sel:Int):Nat→Nat→Int × Int
 | 0,_=>(-1,4)
 | f+1,k=>if selA D (plc sel k)=sel then (metA D (plc sel k),(k:Int)+1) else if selA D (plc sel k) < 0 then (-1,(k:Int)+1) else findF D sel f (k+1)
def findD (D:Dst) (sel:Int):Int × Int:=if sel < 0 then (-1,0) else findF D sel 4 0
def putF (D:Dst) (sel:Int):Nat→Nat→Option Nat
 | 0,_=>none
 | f+1,k=>if selA D (plc sel k)=sel∨selA D (plc sel k) < 0 then some (plc sel k) else putF D sel f (k+1)
def putP (D:Dst) (sel:Int):Option Nat:=if sel < 0 then none else putF D sel 4 0
def putB (D:Dst) (sel:Int):Bool:=(putP D sel).isSome
def putD (D:Dst) (sel met:Int):Dst:=match putP D sel with | some i=>D.set i (sel,met) | none=>D
def ofD:List (Int × Int)→Dst→Option Dst
 | [],D=>some D
 | b :: B,D=>if putB D b.1=true then ofD B (putD D b.1 b.2) else none
theorem plc_lt (sel:Int) (k:Nat):plc sel k < 16:=Nat.mod_lt _ (by omega)
theorem sel_set {D:Dst} (hl:D.length=16) {i:Nat} (hi:i < 16) (x y:Int) (k:Nat):selA (D.set i (x,y)) k=if k=i then x else selA D k:=by
 unfold selA
 simp only [List.getD_eq_getElem?_getD,List.getElem?_set]
 by_cases h:k=i
 ·subst h;rw [if_pos rfl,if_pos (by omega),if_pos rfl];rfl
 ·rw [if_neg (fun e=>h e.symm),if_neg h]
theorem met_set {D:Dst} (hl:D.length=16) {i:Nat} (hi:i < 16) (x y:Int) (k:Nat):metA (D.set i (x,y)) k=if k=i then y else metA D k:=by
 unfold metA
 simp only [List.getD_eq_getElem?_getD,List.getElem?_set]
 by_cases h:k=i
 ·subst h;rw [if_pos rfl,if_pos (by omega),if_pos rfl];rfl
 ·rw [if_neg (fun e=>h e.symm),if_neg h]
structure RefD (w:World) (b:Nat) (D:Dst):Prop where
 len:D.length=16
 bs:∀ k,k < 16→I64 (selA D k)
 bm:∀ k,k < 16→I64 (metA D k)
 cs:∀ k,k < 16→w.cell? ⟨b,k,none⟩=some (.int .i64 (selA D k))
 cm:∀ k,k < 16→w.cell? ⟨b,16+k,none⟩=some (.int .i64 (metA D k))
 z:∀ k,w.frozen? ⟨b,k,none⟩=false
theorem RefD.lt {w:World} {b:Nat} {D:Dst} (h:RefD w b D):b < w.heap.size:=World.block_lt_of_cell? w _ (h.cs 0 (by decide))
theorem RefD.same {w w':World} {b:Nat} {D:Dst} (h:RefD w b D) (hb:w'.heap[b]?=w.heap[b]?):RefD w' b D :=
 ⟨h.len,h.bs,h.bm,fun k hk=>(World.cell?_of_block (a:=⟨b,k,none⟩) hb).trans (h.cs k hk),fun k hk=>(World.cell?_of_block (a:=⟨b,16+k,none⟩) hb).trans (h.cm k hk),fun k=>(World.frozen?_of_block (a:=⟨b,k,none⟩) hb).trans (h.z k)⟩
theorem RefD.keep {w w':World} {b:Nat} {D:Dst} (h:RefD w b D) (g:Below w.heap.size w w'):RefD w' b D:=h.same (g.block b h.lt)
theorem ad_ne {b i j:Nat} (h:i≠j):(⟨b,i,none⟩:Addr)≠⟨b,j,none⟩:=fun e=>h (by cases e;rfl)
theorem RefD.set1 {w:World} {b:Nat} {D:Dst} (h:RefD w b D) {i:Nat} (hi:i < 16) {x:Int} (hx:I64 x):RefD (w.setCell ⟨b,i,none⟩ (.int .i64 x)) b (D.set i (x,metA D i)):=by
 refine⟨by simp [h.len],fun k hk=>?_,fun k hk=>?_,fun k hk=>?_,fun k hk=>?_,fun k=>by rw [World.frozen?_setCell];exact h.z k⟩
 ·rw [sel_set h.len hi];split
  ·exact hx
  ·exact h.bs k hk
 ·rw [met_set h.len hi];split
  ·rename_i e;subst e;exact h.bm k hk
  ·exact h.bm k hk
 ·rw [sel_set h.len hi];split
  ·rename_i e;subst e;exact World.cell?_setCell_same _ _ _ (h.cs k hk)
  ·rename_i e;rw [World.cell?_setCell_other _ _ _ _ (ad_ne (fun q=>e q.symm))];exact h.cs k hk
 ·rw [World.cell?_setCell_other _ _ _ _ (ad_ne (by omega)),met_set h.len hi]
  split
  ·rename_i e;subst e;exact h.cm k hk
  ·exact h.cm k hk
theorem RefD.set2 {w:World} {b:Nat} {D:Dst} (h:RefD w b D) {i:Nat} (hi:i < 16) {y:Int} (hy:I64 y):RefD (w.setCell ⟨b,16+i,none⟩ (.int .i64 y)) b (D.set i (selA D i,y)):=by
 refine⟨by simp [h.len],fun k hk=>?_,fun k hk=>?_,fun k hk=>?_,fun k hk=>?_,fun k=>by rw [World.frozen?_setCell];exact h.z k⟩
 ·rw [sel_set h.len hi];split
  ·rename_i e;subst e;exact h.bs k hk
  ·exact h.bs k hk
 ·rw [met_set h.len hi];split
  ·exact hy
  ·exact h.bm k hk
 ·rw [World.cell?_setCell_other _ _ _ _ (ad_ne (by omega)),sel_set h.len hi]
  split
  ·rename_i e;subst e;exact h.cs k hk
  ·exact h.cs k hk
 ·rw [met_set h.len hi];split
  ·rename_i e;subst e;exact World.cell?_setCell_same _ _ _ (h.cm k hk)
  ·rename_i e;rw [World.cell?_setCell_other _ _ _ _ (ad_ne (by omega))];exact h.cm k hk
theorem RefD.both {w:World} {b:Nat} {D:Dst} (h:RefD w b D) {i:Nat} (hi:i < 16) {x y:Int} (hx:I64 x) (hy:I64 y):RefD ((w.setCell ⟨b,i,none⟩ (.int .i64 x)).setCell ⟨b,16+i,none⟩ (.int .i64 y)) b (D.set i (x,y)):=by
 have h1:=(h.set1 hi hx).set2 hi hy
 rw [sel_set h.len hi,if_pos rfl,List.set_set] at h1
 exact h1
end Wd
end Go.Proofs.YteiejjmhmmkdhaaGreat

/- The document's own dict: Find, Put. -/
namespace Go.Proofs.YteiejjmhmmkdhaaGreat
open Go.RowKit
set_option linter.unusedVariables false
set_option maxRecDepth 20000
namespace Wd
theorem plc_int {sel:Int} (h:0≤sel) (k:Nat):∃ r:Nat,r < 16∧Int.tmod sel 16=(r:Int)∧Int.tmod ((r:Int)*7+(k:Int)) 16=((plc sel k:Nat):Int):=by
 obtain⟨n,rfl⟩:∃ n:Nat,sel=n:=⟨sel.toNat,by omega⟩
 refine⟨n % 16,Nat.mod_lt _ (by omega),by exact (Int.ofNat_tmod n 16).symm,?_⟩
 have e:(((n % 16:Nat):Int)*7+(k:Int))=(((n % 16)*7+k:Nat):Int):=by push_cast;rfl
 rw [e]
 show Int.tmod _ ((16:Nat):Int)=_
 rw [← Int.ofNat_tmod]
 rfl
theorem find_neg {D:Dst} {sel:Int} (h:sel < 0):findD D sel=(-1,0):=if_pos h
theorem find_pos {D:Dst} {sel:Int} (h:0≤sel):findD D sel=findF D sel 4 0:=if_neg (by omega)
end Wd
end Go.Proofs.YteiejjmhmmkdhaaGreat

/- The document's own dict: Put, New, how many. -/
namespace Go.Proofs.YteiejjmhmmkdhaaGreat
open Go.RowKit
set_option linter.unusedVariables false
set_option maxRecDepth 20000
namespace Wd
theorem put_neg {D:Dst} {sel:Int} (h:sel < 0):putP D sel=none:=if_pos h
theorem put_pos {D:Dst} {sel:Int} (h:0≤sel):putP D sel=putF D sel 4 0:=if_neg (by omega)
theorem put_y {D:Dst} {sel met:Int} {i:Nat} (h:putP D sel=some i):putB D sel=true∧putD D sel met=D.set i (sel,met):=by
 unfold putB putD;rw [h];exact⟨rfl,rfl⟩
theorem put_n {D:Dst} {sel met:Int} (h:putP D sel=none):putB D sel=false∧putD D sel met=D:=by
 unfold putB putD;rw [h];exact⟨rfl,rfl⟩
theorem two_ch (w:World) (b i:Nat) (x y:Value):Ch (fun k=>k=b) w ((w.setCell ⟨b,i,none⟩ x).setCell ⟨b,16+i,none⟩ y).drew:=by
 have h1:Ch (fun k=>k=b) w (w.setCell ⟨b,i,none⟩ x):=(Ch.refl (fun k=>k=b) w).set ⟨b,i,none⟩ (show b=b from rfl) x
 have h2:Ch (fun k=>k=b) w ((w.setCell ⟨b,i,none⟩ x).setCell ⟨b,16+i,none⟩ y):=h1.set ⟨b,16+i,none⟩ (show b=b from rfl) y
 exact h2.drew
end Wd
end Go.Proofs.YteiejjmhmmkdhaaGreat

/- Classes, plainly: chains, what is right. -/
namespace Go.Proofs.YteiejjmhmmkdhaaGreat
open Go.RowKit
set_option linter.unusedVariables false
set_option maxRecDepth 20000
namespace Wd
theorem ba_beq (a b:ByteArray):(a == b)=decide (a=b):=by
 obtain⟨⟨x⟩⟩:=a
 obtain⟨⟨y⟩⟩:=b
 show ((⟨x⟩:Array UInt8) == ⟨y⟩)=_
 simp only [ByteArray.mk.injEq,Array.mk.injEq]
 by_cases h:x=y
 ·simp [h]
 ·simp [h]
theorem ba_ne {a b:ByteArray} (h:¬ a=b):(a == b)=false:=by rw [ba_beq];simp [h]
theorem ba_eq {a b:ByteArray} (h:a=b):(a == b)=true:=by rw [ba_beq];simp [h]
theorem bl_ne {a b:ByteArray} (h:¬ a=b):(a.toList == b.toList)=false:=(beq_toListBytes a b).symm.trans (ba_ne h)
theorem bl_eq {a b:ByteArray} (h:a=b):(a.toList == b.toList)=true:=(beq_toListBytes a b).symm.trans (ba_eq h)
def chainR (L:List ClassA):Int→Nat→List Int
 | _,0=>[]
 | i,f+1=>if 0≤i then (match L[i.toNat]? with | some c=>i :: chainR L c.super f | none=>[]) else []
def chain (L:List ClassA) (i:Int):List Int:=chainR L i 8
theorem chainR_on {L:List ClassA} {k f:Nat} {c:ClassA} (h:L[k]?=some c):chainR L (k:Int) (f+1)=(k:Int) :: chainR L c.super f:=by
 have h0:(0:Int)≤(k:Int):=by omega
 rw [chainR,if_pos h0,Int.toNat_natCast,h]
theorem chainR_neg {L:List ClassA} {i:Int} (f:Nat) (h:i < 0):chainR L i f=[]:=by
 cases f with
 | zero=>rfl
 | succ f=>rw [chainR,if_neg (by omega)]
theorem chainR_over {L:List ClassA} {i:Int} (f:Nat) (h:(L.length:Int)≤i):chainR L i f=[]:=by
 cases f with
 | zero=>rfl
 | succ f=>rw [chainR,if_pos (by omega),List.getElem?_eq_none (by omega)]
theorem chainR_len (L:List ClassA):∀ (f:Nat) (i:Int),(chainR L i f).length≤f
 | 0,_=>Nat.le_refl _
 | f+1,i=>by
  unfold chainR
  split
  ·split
   ·rename_i c _
    have:=chainR_len L f c.super
    simp;omega
   ·simp
  ·simp
theorem chain_len (L:List ClassA) (i:Int):(chain L i).length≤8:=chainR_len L 8 i
def textOk (b:ByteArray):Bool:=decide (1≤b.size) && decide (b.size≤16)
def deep (L:List ClassA):Nat→Int→Nat
 | 0,_=>0
 | f+1,i=>if 0≤i then (match L[i.toNat]? with | some c=>deep L f c.super+1 | none=>0) else 0
def superF (L:List ClassA) (s:Int):Int:=match L[s.toNat]? with | some c=>c.fields | none=>0
def classOk (L:List ClassA) (i:Nat) (c:ClassA):Bool :=
 decide (-1≤c.super) && decide (c.super < i) && decide (0≤c.fields) && decide (c.fields≤62) && decide (deep L (i+1) c.super+1≤8) && (decide (c.super < 0) || decide (superF L c.super≤c.fields))
def bindOk (names methods:Int) (b:Int × Int):Bool:=decide (0≤b.1) && decide (b.1 < names) && decide (0≤b.2) && decide (b.2 < methods)
def bindsOk (B:List (Int × Int)) (names methods:Int):Bool:=B.all (bindOk names methods) && decide ((B.map (·.1)).Nodup) && decide (B.length≤16)
def shapeFrom (L:List ClassA) (names methods:Int):Nat→List ClassA→Int
 | _,[]=>0
 | i,c :: R=>if textOk c.nm=false then 13 else if (L.take i).any (fun x=>decide (x.nm=c.nm))=true then 13 else if classOk L i c=false then 14 else if bindsOk c.binds names methods=false then 15 else shapeFrom L names methods (i+1) R
def headOk (L:List ClassA):Bool :=
 match L with
 | a :: b :: _=>decide (a.super=-1) && decide (b.super=-1) && decide (a.fields=4) && decide (b.fields=0)
 | _=>false
def shapeR (L:List ClassA) (names methods:Int):Int :=
 if L.length < 2∨12 < L.length then 3 else if headOk L=false then 14 else shapeFrom L names methods 0 L
end Wd
end Go.Proofs.YteiejjmhmmkdhaaGreat

/- The document's own chain. -/
namespace Go.Proofs.YteiejjmhmmkdhaaGreat
open Go.RowKit
set_option linter.unusedVariables false
set_option maxRecDepth 20000
namespace Wd
structure ChR (w wr:World) (L:List ClassA) (i0 j:Int) (v:Value) (m:Nat) (C:List Int):Prop where
 own:wr.ownsRow w.heap.size 3 1 v m (ints C)
 len:m=C.length
 le:m≤8
 eq:chain L i0=C++chainR L j (8 - m)
 bel:Below w.heap.size w wr
 ij:In64 j
theorem ChR.last {w wr:World} {L:List ClassA} {i0 j:Int} {v:Value} {m:Nat} {C:List Int} (h:ChR w wr L i0 j v m C) (e:chainR L j (8 - m)=[]):SL wr 3 v (chain L i0):=by
 rw [h.eq,e,List.append_nil]
 have:=h.own
 rw [h.len] at this
 exact own_base this
theorem ChR.more {w wr w1 w2:World} {L:List ClassA} {i0:Int} {k:Nat} {v v':Value} {m:Nat} {C:List Int} {c:ClassA} (h:ChR w wr L i0 (k:Int) v m C) (hc:L[k]?=some c) (hl:m < 8) (hA:w1=wr.alloc (.cells #[.int .i64 (k:Int)] 3)) (ho:w2.ownsRow w.heap.size 3 1 v' (m+1) (ints C++ints [(k:Int)])) (hg:w1.grownBy w2 v.ownBlock) (hi:In64 c.super):ChR w w2 L i0 c.super v' (m+1) (C++[(k:Int)]):=by
 subst hA
 refine⟨by simpa using ho,by simp [h.len],by omega,?_,(h.bel.alloc h.bel.size _).grown hg (by have:=h.bel.size;simp;omega) (fun k hk=>(h.own.lt k hk).1),hi⟩
 rw [h.eq,show 8 - m=(7 - m)+1 by omega,chainR_on hc]
 simp [show 8 - (m+1)=7 - m by omega]
end Wd
end Go.Proofs.YteiejjmhmmkdhaaGreat

/- The document's own judgement of binds, and of a class. -/
namespace Go.Proofs.YteiejjmhmmkdhaaGreat
open Go.RowKit
set_option linter.unusedVariables false
set_option maxRecDepth 20000
namespace Wd
structure BdR (B:List (Int × Int)) (names methods:Int) (k:Nat):Prop where
 all:∀ x∈B.take k,bindOk names methods x=true
 nd:((B.take k).map (·.1)).Nodup
theorem BdR.start (B:List (Int × Int)) (names methods:Int):BdR B names methods 0:=⟨by simp,by simp⟩
theorem BdR.step {B:List (Int × Int)} {names methods:Int} {k:Nat} {b:Int × Int} (h:BdR B names methods k) (hb:B[k]?=some b) (ho:bindOk names methods b=true) (hd:∀ x∈B.take k,x.1≠b.1):BdR B names methods (k+1):=by
 refine⟨fun x hx=>?_,?_⟩
 ·rw [List.take_add_one,hb] at hx
  rcases List.mem_append.1 hx with hx | hx
  ·exact h.all x hx
  ·have e:x=b:=by simpa using hx
   rw [e];exact ho
 ·rw [List.take_add_one,hb]
  simp only [Option.toList,List.map_append,List.map_cons,List.map_nil]
  rw [List.nodup_append]
  refine⟨h.nd,by simp,?_⟩
  intro a ha c hc e
  obtain⟨x,hx,rfl⟩:=List.mem_map.1 ha
  exact hd x hx (e.trans (by simpa using hc))
theorem BdR.last {B:List (Int × Int)} {names methods:Int} (h:BdR B names methods B.length):bindsOk B names methods=decide (B.length≤16):=by
 have a:=h.all
 have d:=h.nd
 rw [List.take_length] at a d
 unfold bindsOk
 rw [List.all_eq_true.2 a,decide_eq_true d]
 rfl
theorem bind_bad {B:List (Int × Int)} {names methods:Int} {k:Nat} {b:Int × Int} (hb:B[k]?=some b) (ho:bindOk names methods b=false):bindsOk B names methods=false:=by
 have:B.all (bindOk names methods)=false:=by
  rw [Bool.eq_false_iff]
  intro h
  rw [List.all_eq_true.1 h b (List.mem_of_getElem? hb)] at ho
  cases ho
 unfold bindsOk;rw [this];rfl
theorem bind_twice {B:List (Int × Int)} {names methods:Int} {k j:Nat} {b x:Int × Int} (hb:B[k]?=some b) (hx:B[j]?=some x) (hj:j < k) (e:x.1=b.1):bindsOk B names methods=false:=by
 have:decide ((B.map (·.1)).Nodup)=false:=by
  rw [decide_eq_false_iff_not]
  intro h
  obtain⟨hk,hbk⟩:=List.getElem?_eq_some_iff.1 hb
  obtain⟨hj',hxj⟩:=List.getElem?_eq_some_iff.1 hx
  have:=List.pairwise_iff_getElem.1 h j k (by simpa using hj') (by simpa using hk) hj
  refine this ?_
  simp [hbk,hxj,e]
 unfold bindsOk;rw [this];simp
theorem bindOk_of {names methods:Int} {b:Int × Int} (h0:0≤b.1) (h1:b.1 < names) (h2:0≤b.2) (h3:b.2 < methods):bindOk names methods b=true:=by simp [bindOk,h0,h1,h2,h3]
theorem bindOk_not {names methods:Int} {b:Int × Int} (h:b.1 < 0∨names≤b.1∨b.2 < 0∨methods≤b.2):bindOk names methods b=false:=by
 unfold bindOk
 rcases h with h | h | h | h
 ·rw [decide_eq_false (by omega)];rfl
 ·rw [decide_eq_false (p:=b.1 < names) (by omega)];simp
 ·rw [decide_eq_false (p:=0≤b.2) (by omega)];simp
 ·rw [decide_eq_false (p:=b.2 < methods) (by omega)];simp
end Wd
end Go.Proofs.YteiejjmhmmkdhaaGreat

/- The document's own judgement of a class. -/
namespace Go.Proofs.YteiejjmhmmkdhaaGreat
open Go.RowKit
set_option linter.unusedVariables false
set_option maxRecDepth 20000
namespace Wd
def Down (L:List ClassA) (i:Nat):Prop:=∀ (k:Nat) c,k < i→L[k]?=some c→-1≤c.super∧c.super < k
theorem deep_le (L:List ClassA):∀ (f:Nat) (i:Int),deep L f i≤f
 | 0,_=>Nat.le_refl _
 | f+1,i=>by
  unfold deep
  split
  ·split
   ·rename_i c _
    have:=deep_le L f c.super
    omega
   ·omega
  ·omega
theorem deep_on {L:List ClassA} {k f:Nat} {c:ClassA} (h:L[k]?=some c):deep L (f+1) (k:Int)=deep L f c.super+1:=by
 have h0:(0:Int)≤(k:Int):=by omega
 rw [deep,if_pos h0,Int.toNat_natCast,h]
theorem deep_neg {L:List ClassA} {i:Int} (f:Nat) (h:i < 0):deep L f i=0:=by
 cases f with
 | zero=>rfl
 | succ f=>rw [deep,if_neg (by omega)]
theorem classOk_eq {L:List ClassA} {i:Nat} {c:ClassA} (h1:-1≤c.super) (h2:c.super < i) (h3:0≤c.fields) (h4:c.fields≤62):classOk L i c=(decide (deep L (i+1) c.super+1≤8) && (decide (c.super < 0) || decide (superF L c.super≤c.fields))):=by
 unfold classOk
 rw [decide_eq_true h1,decide_eq_true h2,decide_eq_true h3,decide_eq_true h4]
 rfl
structure DpR (L:List ClassA) (i:Nat) (s:Int) (d:Nat) (j:Int):Prop where
 ex:∃ f,d+deep L f j=1+deep L (i+1) s∧j < f
 ji:j < i
theorem DpR.step {L:List ClassA} {i k d:Nat} {s:Int} {x:ClassA} (h:DpR L i s d (k:Int)) (hx:L[k]?=some x) (hs:x.super < k):DpR L i s (d+1) x.super:=by
 obtain⟨⟨f,e,hf⟩,hi⟩:=h
 obtain⟨f',rfl⟩:∃ f',f=f'+1:=⟨f - 1,by omega⟩
 rw [deep_on hx] at e
 exact⟨⟨f',by omega,by omega⟩,by omega⟩
theorem DpR.last {L:List ClassA} {i d:Nat} {s j:Int} (h:DpR L i s d j) (hj:j < 0):deep L (i+1) s+1=d:=by
 obtain⟨⟨f,e,hf⟩,hi⟩:=h
 rw [deep_neg f hj] at e
 omega
theorem DpR.le {L:List ClassA} {i d:Nat} {s j:Int} (h:DpR L i s d j):d≤i+2:=by
 obtain⟨⟨f,e,hf⟩,hi⟩:=h
 have:=deep_le L (i+1) s
 omega
end Wd
end Go.Proofs.YteiejjmhmmkdhaaGreat

/- The document's own judgement of classes. -/
namespace Go.Proofs.YteiejjmhmmkdhaaGreat
open Go.RowKit
set_option linter.unusedVariables false
set_option maxRecDepth 20000
namespace Wd
theorem take_next {A:Type} {L:List A} {k:Nat} {c:A} (h:L[k]?=some c):L.take (k+1)=L.take k++[c]:=by rw [List.take_add_one,h];rfl
theorem drop_next {A:Type} {L:List A} {k:Nat} {c:A} (h:L[k]?=some c):L.drop k=c :: L.drop (k+1):=by
 obtain⟨hk,e⟩:=List.getElem?_eq_some_iff.1 h
 rw [← e]
 exact List.drop_eq_getElem_cons hk
structure ShR (L:List ClassA) (names methods:Int) (k:Nat):Prop where
 eq:shapeR L names methods=shapeFrom L names methods k (L.drop k)
 down:Down L k
theorem ShR.start {L:List ClassA} {names methods:Int} (h1:2≤L.length) (h2:L.length≤12) (h3:headOk L=true):ShR L names methods 0 :=
 ⟨by unfold shapeR;rw [if_neg (by omega),if_neg (by rw [h3];decide)];rfl,fun k c hk=>by omega⟩
theorem ShR.last {L:List ClassA} {names methods:Int} (h:ShR L names methods L.length):shapeR L names methods=0:=by
 rw [h.eq,List.drop_length];rfl
section
variable {L:List ClassA} {names methods:Int} {k:Nat} {c:ClassA}
theorem ShR.name (h:ShR L names methods k) (hc:L[k]?=some c) (e:textOk c.nm=false):shapeR L names methods=13:=by
 rw [h.eq,drop_next hc,shapeFrom,if_pos e]
theorem anyNot (h:∀ x∈L.take k,x.nm≠c.nm):(L.take k).any (fun x=>decide (x.nm=c.nm))=false:=by
 rw [Bool.eq_false_iff]
 intro ha
 obtain⟨x,hx,e⟩:=List.any_eq_true.1 ha
 exact h x hx (by simpa using e)
theorem ShR.cls (h:ShR L names methods k) (hc:L[k]?=some c) (e:textOk c.nm=true) (hn:∀ x∈L.take k,x.nm≠c.nm) (hk:classOk L k c=false):shapeR L names methods=14:=by
 rw [h.eq,drop_next hc,shapeFrom,if_neg (by rw [e];decide),if_neg (by rw [anyNot hn];decide),if_pos hk]
theorem ShR.bnd (h:ShR L names methods k) (hc:L[k]?=some c) (e:textOk c.nm=true) (hn:∀ x∈L.take k,x.nm≠c.nm) (hk:classOk L k c=true) (hb:bindsOk c.binds names methods=false):shapeR L names methods=15:=by
 rw [h.eq,drop_next hc,shapeFrom,if_neg (by rw [e];decide),if_neg (by rw [anyNot hn];decide),if_neg (by rw [hk];decide),if_pos hb]
theorem classOk_down (hk:classOk L k c=true):-1≤c.super∧c.super < k:=by
 unfold classOk at hk
 simp only [Bool.and_eq_true,decide_eq_true_eq] at hk
 obtain⟨⟨⟨⟨⟨h1,h2⟩,_⟩,_⟩,_⟩,_⟩:=hk
 exact⟨h1,h2⟩
theorem ShR.step (h:ShR L names methods k) (hc:L[k]?=some c) (e:textOk c.nm=true) (hn:∀ x∈L.take k,x.nm≠c.nm) (hk:classOk L k c=true) (hb:bindsOk c.binds names methods=true):ShR L names methods (k+1):=by
 refine⟨by rw [h.eq,drop_next hc,shapeFrom,if_neg (by rw [e];decide),if_neg (by rw [anyNot hn];decide),if_neg (by rw [hk];decide),if_neg (by rw [hb];decide)],fun j x hj hx=>?_⟩
 rcases (show j < k∨j=k by omega) with hj | rfl
 ·exact h.down j x hj hx
 ·rw [hc] at hx
  cases hx
  exact classOk_down hk
end
theorem head_at {L:List ClassA} {a b:ClassA} (ha:L[0]?=some a) (hb:L[1]?=some b):headOk L=(decide (a.super=-1) && decide (b.super=-1) && decide (a.fields=4) && decide (b.fields=0)):=by
 match L,ha,hb with
 | x :: y :: R,ha,hb =>
  simp only [List.getElem?_cons_zero,Option.some.injEq] at ha
  simp only [List.getElem?_cons_succ,List.getElem?_cons_zero,Option.some.injEq] at hb
  subst ha;subst hb;rfl
theorem shape_short {L:List ClassA} {names methods:Int} (h:L.length < 2∨12 < L.length):shapeR L names methods=3:=by unfold shapeR;rw [if_pos h]
theorem shape_head {L:List ClassA} {names methods:Int} (h1:2≤L.length) (h2:L.length≤12) (h:headOk L=false):shapeR L names methods=14:=by unfold shapeR;rw [if_neg (by omega),if_pos h]
end Wd
end Go.Proofs.YteiejjmhmmkdhaaGreat

/- The document's own dict: New, how many. -/
namespace Go.Proofs.YteiejjmhmmkdhaaGreat
open Go.RowKit
set_option linter.unusedVariables false
set_option maxRecDepth 20000
namespace Wd
def DK (k:Nat):Dst:=List.replicate k (-1,0)++List.replicate (16 - k) (0,0)
theorem DK_all:DK 16=D0:=rfl
theorem DK_next {k:Nat} (hk:k < 16):(DK k).set k (-1,metA (DK k) k)=DK (k+1):=by
 rcases (show k=0∨k=1∨k=2∨k=3∨k=4∨k=5∨k=6∨k=7∨k=8∨k=9∨k=10∨k=11∨k=12∨k=13∨k=14∨k=15 by omega) with rfl | rfl | rfl | rfl | rfl | rfl | rfl | rfl | rfl | rfl | rfl | rfl | rfl | rfl | rfl | rfl <;> rfl
theorem of_step {B:List (Int × Int)} {D:Dst} {k:Nat} {x:Int × Int} (h:B[k]?=some x) (hb:putB D x.1=true):ofD (B.drop k) D=ofD (B.drop (k+1)) (putD D x.1 x.2):=by
 rw [drop_next h,ofD,if_pos hb]
theorem of_stop {B:List (Int × Int)} {D:Dst} {k:Nat} {x:Int × Int} (h:B[k]?=some x) (hb:putB D x.1=false):ofD (B.drop k) D=none:=by
 rw [drop_next h,ofD,if_neg (by rw [hb];decide)]
theorem rel_below {w0 wr w1:World} {b:Nat} (h:Below w0.heap.size w0 wr) (c:Ch (fun k=>k=b) wr w1) (hb:w0.heap.size≤b):Below w0.heap.size w0 w1:=below_ch h c (fun k hk=>by subst hk;exact hb)
end Wd
end Go.Proofs.YteiejjmhmmkdhaaGreat

/- The document's own judgement of names. -/
namespace Go.Proofs.YteiejjmhmmkdhaaGreat
open Go.RowKit
set_option linter.unusedVariables false
set_option maxRecDepth 20000
namespace Wd
theorem NmV.at {w:World} {ad:Option Addr} {n cap:Nat} {L:List ByteArray} (h:NmV w (.slice ad n cap) L) {k:Nat} {x:ByteArray} (hx:L[k]?=some x):∃ g off,ad=some ⟨g,off,none⟩∧w.cell? ⟨g,off+k,none⟩=some (.string x):=by
 obtain⟨ad',cap',e,_,_,h3⟩:=h.ex
 cases e
 exact h3 k x hx
def namesB (L:List ByteArray):Bool:=L.all (fun x=>decide (0≤argsR x)) && decide (L.Pairwise (fun x y=>x≠y))
structure NsR (L:List ByteArray) (k:Nat):Prop where
 mk ::
 all:∀ (i:Nat) x,i < k→L[i]?=some x→0≤argsR x∧∀ y∈L.take i,y≠x
theorem NsR.start (L:List ByteArray):NsR L 0:=⟨fun i x hi=>absurd hi (by omega)⟩
theorem NsR.step {L:List ByteArray} {k:Nat} {x:ByteArray} (h:NsR L k) (hx:L[k]?=some x) (ha:0≤argsR x) (hD:∀ y∈L.take k,y≠x):NsR L (k+1):=by
 refine⟨fun i y hi hy=>?_⟩
 rcases (show i < k∨i=k by omega) with hi | rfl
 ·exact h.all i y hi hy
 ·rw [hx] at hy;cases hy;exact⟨ha,hD⟩
theorem NsR.last {L:List ByteArray} (h:NsR L L.length):namesB L=true:=by
 unfold namesB
 rw [Bool.and_eq_true]
 constructor
 ·rw [List.all_eq_true]
  intro x hx
  obtain⟨i,hi⟩:=List.getElem?_of_mem hx
  exact decide_eq_true (h.all i x (List.getElem?_eq_some_iff.1 hi).1 hi).1
 ·rw [decide_eq_true_iff,List.pairwise_iff_getElem]
  intro i j hi hj hij
  exact (h.all j L[j] hj (List.getElem?_eq_getElem hj)).2 L[i] (List.mem_take_iff_getElem.2 ⟨i,by omega,rfl⟩)
theorem names_bad {L:List ByteArray} {k:Nat} {x:ByteArray} (hx:L[k]?=some x) (ha:argsR x < 0):namesB L=false:=by
 unfold namesB
 rw [Bool.and_eq_false_iff]
 left
 rw [List.all_eq_false]
 exact⟨x,List.mem_of_getElem? hx,by simp;omega⟩
theorem names_twice {L:List ByteArray} {k j:Nat} {x y:ByteArray} (hx:L[k]?=some x) (hj:j < k) (hy:L[j]?=some y) (e:y=x):namesB L=false:=by
 unfold namesB
 rw [Bool.and_eq_false_iff]
 right
 rw [decide_eq_false_iff_not,List.pairwise_iff_getElem]
 intro h
 obtain⟨a,ha⟩:=List.getElem?_eq_some_iff.1 hx
 obtain⟨b,hb⟩:=List.getElem?_eq_some_iff.1 hy
 exact h j k b a hj (by rw [ha,hb];exact e)
end Wd
end Go.Proofs.YteiejjmhmmkdhaaGreat

/- Methods, plainly: instructions, whether they are right. -/
namespace Go.Proofs.YteiejjmhmmkdhaaGreat
open Go.RowKit
set_option linter.unusedVariables false
set_option maxRecDepth 20000
namespace Wd
structure MeV (w:World) (v:Value) (m:MethA):Prop where
 mk ::
 ex:∃ la lc ca cc,v=.agg #[.int .i64 m.args,.int .i64 m.temps,.slice la m.lits.length lc,.slice ca m.code.length cc]∧PrV w (.slice la m.lits.length lc) m.lits∧ByV w (.slice ca m.code.length cc) m.code
 a64:In64 m.args
 t64:In64 m.temps
theorem PrV.le {w:World} {v:Value} {L:List (Int × Int)} (h:PrV w v L):L.length≤maxLen:=by
 obtain⟨ad,cap,_,h1,h2,_⟩:=h.ex;omega
theorem ByV.form {w:World} {v:Value} {L:List Int} (h:ByV w v L):∃ ad cap,v=.slice ad L.length cap∧L.length≤cap∧cap≤maxLen:=by
 obtain⟨ad,cap,e,h1,h2,h3⟩:=h.ex
 exact⟨ad,cap,e,h1,h2⟩
theorem ByV.le {w:World} {v:Value} {L:List Int} (h:ByV w v L):L.length≤maxLen:=by
 obtain⟨ad,cap,_,h1,h2⟩:=h.form;omega
theorem ByV.at {w:World} {ad:Option Addr} {n cap:Nat} {L:List Int} (h:ByV w (.slice ad n cap) L) {k:Nat} {x:Int} (hk:L[k]?=some x):(0≤x∧x≤255)∧∃ g off,ad=some ⟨g,off,none⟩∧w.cell? ⟨g,off+k,none⟩=some (.int .u8 x):=by
 obtain⟨ad',cap',e,h1,h2,h3⟩:=h.ex
 cases e
 exact h3 k x hk
theorem ByV.take {w:World} {ad:Option Addr} {n cap:Nat} {L:List Int} (h:ByV w (.slice ad n cap) L) (k:Nat) (hk:k≤L.length):ByV w (.slice ad k cap) (L.take k):=by
 obtain⟨ad',cap',e,h1,h2,h3⟩:=h.ex
 cases e
 have hl:(L.take k).length=k:=by rw [List.length_take];omega
 refine⟨ad,cap,by rw [hl],by omega,h2,fun j x hx=>h3 j x ?_⟩
 rw [List.getElem?_take] at hx
 split at hx
 ·exact hx
 ·cases hx
theorem MeV.up {w w1:World} {v:Value} {m:MethA} (h:MeV w v m) (b:Below w.heap.size w w1):MeV w1 v m:=by
 obtain⟨la,lc,ca,cc,e,h1,h2⟩:=h.ex
 exact⟨⟨la,lc,ca,cc,e,h1.up b,h2.up b⟩,h.a64,h.t64⟩
def byAt (C:List Int) (k:Nat):Int:=C.getD k 0
theorem byAt_some {C:List Int} {k:Nat} (h:k < C.length):C[k]?=some (byAt C k):=by
 unfold byAt
 rw [List.getD_eq_getElem?_getD,List.getElem?_eq_getElem h];rfl
def fetR (C:List Int) (pc:Int):Int × Int × Bool:=if pc < 0∨pc % 2≠0∨pc > (C.length:Int) - 2 then (0,0,false) else (byAt C pc.toNat,byAt C (pc.toNat+1),true)
def takL:List Int:=[2,2,2,2,2,2,1,1,2,3,1,1,2,2,0,1,1,0,1,3,2,0,1,0]
def takR (p:Int):Int:=if p < 0∨p > 23 then -1 else takL.getD p.toNat 0
def litAt (L:List (Int × Int)) (i:Int):Int × Int:=L.getD i.toNat (0,0)
def hasLit (L:List (Int × Int)) (i kind:Int):Bool:=decide (i < (L.length:Int)) && decide ((litAt L i).1=kind)
def insR (m:MethA) (pc op arg:Int):Bool :=
 if op=0∨op=10 then decide (arg < m.args+m.temps)
 else if op=1∨op=11 then decide (arg < 62)
 else if op=2 then hasLit m.lits arg 3
 else if op=12∨op=13 then hasLit m.lits arg 5
 else if op=20 then hasLit m.lits arg 6 && decide ((litAt m.lits arg).2 > 1)
 else if op=18 then hasLit m.lits arg 7
 else if op=15∨op=17 then decide (pc+2+2*arg < (m.code.length:Int))
 else if op=16 then decide (2*arg≤pc)
 else if op=21 then decide (arg≤23)
 else decide (op≤21)
def litR (x:Int × Int) (nn nc nm:Nat):Bool :=
 if x.1=3 then decide (-1073741824≤x.2) && decide (x.2≤1073741823)
 else if x.1=5 then decide (0≤x.2) && decide (x.2 < (nn:Int))
 else if x.1=6 then decide (0≤x.2) && decide (x.2 < (nc:Int))
 else if x.1=7 then decide (0≤x.2) && decide (x.2 < (nm:Int))
 else false
def insF (m:MethA):Nat→Nat→Bool
 | 0,_=>true
 | f+1,pc=>insR m (pc:Int) (byAt m.code pc) (byAt m.code (pc+1)) && insF m f (pc+2)
def metR (m:MethA) (nn nc nm:Nat):Int :=
 if m.code.length > 128∨m.lits.length > 16∨m.args < 0∨m.temps < 0∨m.args > 8∨m.temps > 8 - m.args then 3
 else if m.code.length < 2∨m.code.length % 2≠0 then 12
 else if byAt m.code (m.code.length - 2)≠14∧byAt m.code (m.code.length - 2)≠19∧byAt m.code (m.code.length - 2)≠16 then 12
 else if m.lits.all (fun x=>litR x nn nc nm)=false then 12
 else if insF m (m.code.length / 2) 0=false then 12
 else 0
theorem fet_no {C:List Int} {pc:Int} (h:pc < 0∨pc % 2≠0∨pc > (C.length:Int) - 2):fetR C pc=(0,0,false):=if_pos h
theorem fet_yes {C:List Int} {pc:Int} (h0:0≤pc) (h1:pc % 2=0) (h2:pc≤(C.length:Int) - 2):fetR C pc=(byAt C pc.toNat,byAt C (pc.toNat+1),true):=if_neg (by omega)
theorem mod2 {n:Nat}:Int.tmod (n:Int) 2=((n % 2:Nat):Int):=by
 show Int.tmod _ ((2:Nat):Int)=_
 rw [← Int.ofNat_tmod]
end Wd
end Go.Proofs.YteiejjmhmmkdhaaGreat

/- The document's own instructions: Fetch, Takes, Name, literals. -/
namespace Go.Proofs.YteiejjmhmmkdhaaGreat
open Go.RowKit
set_option linter.unusedVariables false
set_option maxRecDepth 20000
namespace Wd
end Wd
end Go.Proofs.YteiejjmhmmkdhaaGreat

/- The document's own instructions: Fetch, one of a method; is it right? -/
namespace Go.Proofs.YteiejjmhmmkdhaaGreat
open Go.RowKit
set_option linter.unusedVariables false
set_option maxRecDepth 20000
namespace Wd
structure MeB (w:World) (q:Nat) (v:Value) (m:MethA) (la ca:Option Addr) (lc cc:Nat):Prop where
 e:v=.agg #[.int .i64 m.args,.int .i64 m.temps,.slice la m.lits.length lc,.slice ca m.code.length cc]
 c0:w.cell? ⟨q,0,none⟩=some (.int .i64 m.args)
 c1:w.cell? ⟨q,1,none⟩=some (.int .i64 m.temps)
 c2:w.cell? ⟨q,2,none⟩=some (.slice la m.lits.length lc)
 c3:w.cell? ⟨q,3,none⟩=some (.slice ca m.code.length cc)
 me:MeV w v m
theorem MeB.born {w:World} {m:MethA} {la ca:Option Addr} {lc cc:Nat} (h:MeV w (.agg #[.int .i64 m.args,.int .i64 m.temps,.slice la m.lits.length lc,.slice ca m.code.length cc]) m):MeB (w.alloc (.cells #[.int .i64 m.args,.int .i64 m.temps,.slice la m.lits.length lc,.slice ca m.code.length cc] 75)) w.heap.size (.agg #[.int .i64 m.args,.int .i64 m.temps,.slice la m.lits.length lc,.slice ca m.code.length cc]) m la ca lc cc :=
 ⟨rfl,by simp,by simp,by simp,by simp,h.up ((Below.refl _ _).alloc (Nat.le_refl _) _)⟩
theorem MeB.lt {w:World} {q:Nat} {v:Value} {m:MethA} {la ca:Option Addr} {lc cc:Nat} (h:MeB w q v m la ca lc cc):q < w.heap.size:=World.block_lt_of_cell? w _ h.c0
theorem MeB.up {w w1:World} {q:Nat} {v:Value} {m:MethA} {la ca:Option Addr} {lc cc:Nat} (h:MeB w q v m la ca lc cc) (b:Below w.heap.size w w1):MeB w1 q v m la ca lc cc :=
 ⟨h.e,cell_up b h.c0,cell_up b h.c1,cell_up b h.c2,cell_up b h.c3,h.me.up b⟩
theorem MeB.py {w:World} {q:Nat} {v:Value} {m:MethA} {la ca:Option Addr} {lc cc:Nat} (h:MeB w q v m la ca lc cc):PrV w (.slice la m.lits.length lc) m.lits∧ByV w (.slice ca m.code.length cc) m.code:=by
 obtain⟨la',lc',ca',cc',e,h1,h2⟩:=h.me.ex
 rw [h.e] at e
 cases e
 exact⟨h1,h2⟩
theorem len_le {n:Nat} (h:n≤maxLen):(n:Int)≤9223372036854775807:=by
 have:maxLen≤9223372036854775807:=by decide
 omega
end Wd
end Go.Proofs.YteiejjmhmmkdhaaGreat

/- The document's own instructions: has a method such a literal? is a literal right? -/
namespace Go.Proofs.YteiejjmhmmkdhaaGreat
open Go.RowKit
set_option linter.unusedVariables false
set_option maxRecDepth 20000
namespace Wd
theorem litAt_some {L:List (Int × Int)} {k:Nat} (h:k < L.length):L[k]?=some (litAt L (k:Int)):=by
 unfold litAt
 rw [Int.toNat_natCast,List.getD_eq_getElem?_getD,List.getElem?_eq_getElem h];rfl
structure UnK (w:World) (v:Value) (U:UnitA):Prop where
 mk ::
 ex:∃ na nc ca cc ma mc oa oc,v=.agg #[.slice na U.names.length nc,.slice ca U.classes.length cc,.slice ma U.methods.length mc,.slice oa U.objects.length oc,.int .i64 U.main]∧UnV w (.slice na U.names.length nc) (.slice ca U.classes.length cc) (.slice ma U.methods.length mc) (.slice oa U.objects.length oc) U
theorem UnK.up {w w1:World} {v:Value} {U:UnitA} (h:UnK w v U) (b:Below w.heap.size w w1):UnK w1 v U:=by
 obtain⟨na,nc,ca,cc,ma,mc,oa,oc,e,h⟩:=h.ex
 exact⟨⟨na,nc,ca,cc,ma,mc,oa,oc,e,h.up b⟩⟩
def num30 (x:Int):Bool:=decide (-1073741824≤x) && decide (x≤1073741823)
def inN (x:Int) (n:Nat):Bool:=decide (0≤x) && decide (x < (n:Int))
theorem lit_num (x:Int) (nn nc nm:Nat):litR (3,x) nn nc nm=num30 x:=rfl
theorem lit_sel (x:Int) (nn nc nm:Nat):litR (5,x) nn nc nm=inN x nn:=rfl
theorem lit_cls (x:Int) (nn nc nm:Nat):litR (6,x) nn nc nm=inN x nc:=rfl
theorem lit_blk (x:Int) (nn nc nm:Nat):litR (7,x) nn nc nm=inN x nm:=rfl
theorem lit_no {k x:Int} (nn nc nm:Nat) (h3:k≠3) (h5:k≠5) (h6:k≠6) (h7:k≠7):litR (k,x) nn nc nm=false:=by
 unfold litR
 rw [if_neg h3,if_neg h5,if_neg h6,if_neg h7]
end Wd
end Go.Proofs.YteiejjmhmmkdhaaGreat

/- The document's own judgement of an object. -/
namespace Go.Proofs.YteiejjmhmmkdhaaGreat
open Go.RowKit
set_option linter.unusedVariables false
set_option maxRecDepth 20000
namespace Wd
structure ObK (w:World) (v:Value) (x:ObjA):Prop where
 mk ::
 c64:In64 x.cls
 ex:∃ fa fc,v=.agg #[.int .i64 x.cls,.slice fa x.flds.length fc]∧PrV w (.slice fa x.flds.length fc) x.flds
theorem ObK.up {w w1:World} {v:Value} {x:ObjA} (h:ObK w v x) (b:Below w.heap.size w w1):ObK w1 v x:=by
 obtain⟨fa,fc,e,p⟩:=h.ex
 exact⟨h.c64,fa,fc,e,p.up b⟩
def fldOk (v:Int × Int) (no:Nat):Bool:=if v.1=0∨v.1=1∨v.1=2 then v.2 == 0 else if v.1=3 then num30 v.2 else if v.1=4 then inN v.2 no else false
def clsF (C:List ClassA) (c:Int):Int:=match C[c.toNat]? with
 | some x=>x.fields
 | none=>0
def objHead (o:ObjA) (C:List ClassA):Bool:=if o.cls < 1∨(C.length:Int)≤o.cls then false else if 1 < o.cls∧(o.flds.length:Int)≠clsF C o.cls then false else decide (o.flds.length≤62)
def objB (o:ObjA) (C:List ClassA) (no:Nat):Bool:=objHead o C && o.flds.all (fldOk · no)
theorem clsF_at {C:List ClassA} {k:Nat} {x:ClassA} (h:C[k]?=some x):clsF C (k:Int)=x.fields:=by
 unfold clsF;rw [Int.toNat_natCast,h]
theorem head_low {o:ObjA} {C:List ClassA} (h:o.cls < 1):objHead o C=false:=by
 unfold objHead;rw [if_pos (Or.inl h)]
theorem head_high {o:ObjA} {C:List ClassA} (h:(C.length:Int)≤o.cls):objHead o C=false:=by
 unfold objHead;rw [if_pos (Or.inr h)]
theorem head_ok {o:ObjA} {C:List ClassA} (h0:¬ (o.cls < 1∨(C.length:Int)≤o.cls)) (h1:¬ (1 < o.cls∧(o.flds.length:Int)≠clsF C o.cls)) (h2:o.flds.length≤62):objHead o C=true:=by
 unfold objHead
 rw [if_neg h0,if_neg h1,decide_eq_true h2]
theorem objB_no {o:ObjA} {C:List ClassA} (h:objHead o C=false) (no:Nat):objB o C no=false:=by unfold objB;rw [h];rfl
theorem objB_yes {o:ObjA} {C:List ClassA} (h:objHead o C=true) (no:Nat):objB o C no=o.flds.all (fldOk · no):=by unfold objB;rw [h];rfl
structure FdR (L:List (Int × Int)) (no k:Nat):Prop where
 mk ::
 all:∀ x∈L.take k,fldOk x no=true
theorem FdR.start (L:List (Int × Int)) (no:Nat):FdR L no 0:=⟨by simp⟩
theorem FdR.step {L:List (Int × Int)} {no k:Nat} {x:Int × Int} (h:FdR L no k) (hx:L[k]?=some x) (e:fldOk x no=true):FdR L no (k+1):=by
 refine⟨fun y hy=>?_⟩
 rw [take_next hx] at hy
 rcases List.mem_append.1 hy with hy | hy
 ·exact h.all y hy
 ·rw [List.mem_singleton.1 hy];exact e
theorem FdR.last {L:List (Int × Int)} {no:Nat} (h:FdR L no L.length):L.all (fldOk · no)=true:=by
 rw [List.all_eq_true]
 intro x hx
 exact h.all x (by rw [List.take_length];exact hx)
theorem fd_bad {L:List (Int × Int)} {no k:Nat} {x:Int × Int} (hx:L[k]?=some x) (e:fldOk x no=false):L.all (fldOk · no)=false:=by
 rw [List.all_eq_false]
 exact⟨x,List.mem_of_getElem? hx,by simp [e]⟩
theorem fld_012 {k x:Int} (no:Nat) (h:k=0∨k=1∨k=2):fldOk (k,x) no=(x == 0):=if_pos h
theorem fld_3 (x:Int) (no:Nat):fldOk (3,x) no=num30 x:=rfl
theorem fld_4 (x:Int) (no:Nat):fldOk (4,x) no=inN x no:=rfl
theorem fld_no {k x:Int} (no:Nat) (h:¬ (k=0∨k=1∨k=2)) (h3:k≠3) (h4:k≠4):fldOk (k,x) no=false:=by
 unfold fldOk
 rw [if_neg h,if_neg h3,if_neg h4]
end Wd
end Go.Proofs.YteiejjmhmmkdhaaGreat

/- The document's own search for a method. -/
namespace Go.Proofs.YteiejjmhmmkdhaaGreat
open Go.RowKit
set_option linter.unusedVariables false
set_option maxRecDepth 20000
namespace Wd
def bindIn (B:List (Int × Int)) (sel:Int):Option Int:=(B.find? (fun x=>x.1 == sel)).map (·.2)
def bindsAt (C:List ClassA) (c:Int):List (Int × Int):=match C[c.toNat]? with
 | some x=>x.binds
 | none=>[]
def findIn (C:List ClassA) (sel:Int):List Int→Int
 | []=>-1
 | c :: r=>match bindIn (bindsAt C c) sel with
  | some m=>m
  | none=>findIn C sel r
structure BdN (B:List (Int × Int)) (sel:Int) (k:Nat):Prop where
 mk ::
 all:bindIn B sel=bindIn (B.drop k) sel
theorem BdN.start (B:List (Int × Int)) (sel:Int):BdN B sel 0:=⟨rfl⟩
theorem BdN.step {B:List (Int × Int)} {sel:Int} {k:Nat} {x:Int × Int} (h:BdN B sel k) (hx:B[k]?=some x) (e:¬ x.1=sel):BdN B sel (k+1):=by
 refine⟨h.all.trans ?_⟩
 unfold bindIn
 rw [drop_next hx,List.find?_cons_of_neg (by simpa using e)]
theorem BdN.last {B:List (Int × Int)} {sel:Int} (h:BdN B sel B.length):bindIn B sel=none:=by
 refine h.all.trans ?_
 rw [List.drop_length]
 rfl
structure FnR (C:List ClassA) (R:List Int) (sel:Int) (k:Nat):Prop where
 mk ::
 all:findIn C sel R=findIn C sel (R.drop k)
theorem FnR.start (C:List ClassA) (R:List Int) (sel:Int):FnR C R sel 0:=⟨rfl⟩
theorem FnR.step {C:List ClassA} {R:List Int} {sel c:Int} {k:Nat} (h:FnR C R sel k) (hx:R[k]?=some c) (e:bindIn (bindsAt C c) sel=none):FnR C R sel (k+1):=by
 refine⟨h.all.trans ?_⟩
 rw [drop_next hx,findIn,e]
theorem FnR.last {C:List ClassA} {R:List Int} {sel:Int} (h:FnR C R sel R.length):findIn C sel R=-1:=by
 refine h.all.trans ?_
 rw [List.drop_length]
 rfl
end Wd
end Go.Proofs.YteiejjmhmmkdhaaGreat

/- What the functions of chapter 1's own answer return; the words of a program. -/
namespace Go.Proofs.YteiejjmhmmkdhaaGreat
open Go.RowKit
set_option linter.unusedVariables false
set_option maxRecDepth 20000
namespace Wd
def wordsB (O:List ObjA):Int:=(O.map (fun o=>wd (fo (o.flds.length:Int)))).sum
theorem ObV.form {w:World} {v:Value} {L:List ObjA} (h:ObV w v L):∃ ad cap,v=.slice ad L.length cap∧L.length≤cap∧cap≤maxLen:=by
 obtain⟨ad,cap,e,h1,h2,_⟩:=h.ex
 exact⟨ad,cap,e,h1,h2⟩
theorem ObV.at {w:World} {ad:Option Addr} {n cap:Nat} {L:List ObjA} (h:ObV w (.slice ad n cap) L) {k:Nat} {x:ObjA} (hx:L[k]?=some x):In64 x.cls∧∃ g off fv,ad=some ⟨g,off,none⟩∧w.cell? ⟨g,off+k*2,none⟩=some (.int .i64 x.cls)∧w.cell? ⟨g,off+k*2+1,none⟩=some fv∧PrV w fv x.flds:=by
 obtain⟨ad',cap',e,_,_,h3⟩:=h.ex
 cases e
 exact h3 k x hx
structure WdR (O:List ObjA) (k:Nat) (s:Int):Prop where
 mk ::
 eq:s=wordsB (O.take k)
 lo:0≤s
 hi:s≤64*(k:Int)
theorem WdR.start (O:List ObjA):WdR O 0 0:=⟨rfl,by omega,by omega⟩
theorem WdR.step {O:List ObjA} {k:Nat} {s:Int} {x:ObjA} (h:WdR O k s) (hx:O[k]?=some x):WdR O (k+1) (s+wd (fo (x.flds.length:Int))):=by
 have b:=wd_bd (fo (x.flds.length:Int))
 refine⟨?_,by have:=h.lo;omega,by have:=h.hi;push_cast;omega⟩
 rw [take_next hx,h.eq]
 unfold wordsB
 simp
theorem WdR.last {O:List ObjA} {s:Int} (h:WdR O O.length s):s=wordsB O:=by
 have:=h.eq
 rwa [List.take_length] at this
end Wd
end Go.Proofs.YteiejjmhmmkdhaaGreat

/- Are two rows of pairs alike? (the document's own vals and binds) -/
namespace Go.Proofs.YteiejjmhmmkdhaaGreat
open Go.RowKit
set_option linter.unusedVariables false
set_option maxRecDepth 20000
namespace Wd
structure EqR {T:Type} (A B:List T) (k:Nat):Prop where
 mk ::
 eq:A.take k=B.take k
theorem EqR.start {T:Type} (A B:List T):EqR A B 0:=⟨by simp⟩
theorem EqR.step {T:Type} {A B:List T} {k:Nat} {x y:T} (h:EqR A B k) (hx:A[k]?=some x) (hy:B[k]?=some y) (e:x=y):EqR A B (k+1):=by
 refine⟨?_⟩
 rw [take_next hx,take_next hy,h.eq,e]
theorem EqR.last {T:Type} [DecidableEq T] {A B:List T} {n:Nat} (h:EqR A B n) (ha:n=A.length) (hb:n=B.length):decide (A=B)=true:=by
 have:=h.eq
 rw [ha,List.take_length,← ha,hb,List.take_length] at this
 exact decide_eq_true this
end Wd
end Go.Proofs.YteiejjmhmmkdhaaGreat

/- Bytes as a text. -/
namespace Go.Proofs.YteiejjmhmmkdhaaGreat
open Go.RowKit
set_option linter.unusedVariables false
set_option maxRecDepth 20000
namespace Wd
theorem ByV.bd {w:World} {v:Value} {L:List Int} (h:ByV w v L):∀ x∈L,0≤x∧x≤255:=by
 obtain⟨ad,cap,rfl,_⟩:=h.form
 intro x hx
 obtain⟨k,hk⟩:=List.getElem?_of_mem hx
 exact (h.at hk).1
end Wd
end Go.Proofs.YteiejjmhmmkdhaaGreat

/- Are two methods the same? (the document's own) -/
namespace Go.Proofs.YteiejjmhmmkdhaaGreat
open Go.RowKit
set_option linter.unusedVariables false
set_option maxRecDepth 20000
namespace Wd
structure Sm2 (w wr:World) (A B:MethA) (la lb ca cb:Option Addr) (lac lbc cac cbc:Nat):Prop where
 mk ::
 cells:wr.cell? ⟨w.heap.size,0,none⟩=some (.int .i64 A.args)∧wr.cell? ⟨w.heap.size,1,none⟩=some (.int .i64 A.temps)∧wr.cell? ⟨w.heap.size,2,none⟩=some (.slice la A.lits.length lac)∧wr.cell? ⟨w.heap.size,3,none⟩=some (.slice ca A.code.length cac)∧wr.cell? ⟨w.heap.size+1,0,none⟩=some (.int .i64 B.args)∧wr.cell? ⟨w.heap.size+1,1,none⟩=some (.int .i64 B.temps)∧wr.cell? ⟨w.heap.size+1,2,none⟩=some (.slice lb B.lits.length lbc)∧wr.cell? ⟨w.heap.size+1,3,none⟩=some (.slice cb B.code.length cbc)∧ByV wr (.slice ca A.code.length cac) A.code∧ByV wr (.slice cb B.code.length cbc) B.code
 pa:PrV wr (.slice la A.lits.length lac) A.lits
 pb:PrV wr (.slice lb B.lits.length lbc) B.lits
 bel:Below w.heap.size w wr
theorem Sm2.up {w wr w2:World} {A B:MethA} {la lb ca cb:Option Addr} {lac lbc cac cbc:Nat} (h:Sm2 w wr A B la lb ca cb lac lbc cac cbc) (b:Below wr.heap.size wr w2):Sm2 w w2 A B la lb ca cb lac lbc cac cbc:=by
 obtain⟨a0,a1,a2,a3,b0,b1,b2,b3,y0,y1⟩:=h.cells
 exact⟨⟨cell_up b a0,cell_up b a1,cell_up b a2,cell_up b a3,cell_up b b0,cell_up b b1,cell_up b b2,cell_up b b3,y0.up b,y1.up b⟩,h.pa.up b,h.pb.up b,h.bel.trans (b.mono h.bel.size)⟩
end Wd
end Go.Proofs.YteiejjmhmmkdhaaGreat
