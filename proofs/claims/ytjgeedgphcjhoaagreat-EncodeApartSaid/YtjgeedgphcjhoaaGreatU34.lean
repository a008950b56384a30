/-
  RSame: merged, what the law does not reach left out (each text says what it holds where it lies in wip). No condition.
-/
import Derived.Test.YtjgeedgphcjhoaaGreatU33
import Derived.Test.YtjgeedgphcjhoaaGreatU12
import Derived.BigGuard
import Derived.Deep.RegionHeld3
import Derived.Deep.DeepCutAuto
import Derived.Test.YtjgeedgphcjhoaaGreatU01
set_option linter.unusedSimpArgs false
set_option linter.unusedVariables false
set_option maxRecDepth 100000
namespace Go.Proofs.YtjgeedgphcjhoaaGreat
open Go.RowKit
set_option maxHeartbeats 64000000 in
theorem RSame_says (atp aimp afp atbp amp agp axp aep adp : Option Addr) (atn atc aimn aimc afn afc atbn atbc amn amc agn agc axn axc aen aec adn adc : Nat) (ast : Int) (acnt : Bool) (btp bimp bfp btbp bmp bgp bxp bep bdp : Option Addr) (btn btc bimn bimc bfn bfc btbn btbc bmn bmc bgn bgc bxn bxc ben bec bdn bdc : Nat) (bst : Int) (bcnt : Bool) (atblk atoff : Nat) (atp0 : Nat → Option Addr) (atn0 atc0 : Nat → Nat) (atp1 : Nat → Option Addr) (atn1 atc1 : Nat → Nat) (btblk btoff : Nat) (btp0 : Nat → Option Addr) (btn0 btc0 : Nat → Nat) (btp1 : Nat → Option Addr) (btn1 btc1 : Nat → Nat) (tA : Nat → Bool) (tB : Nat → Bool) (aimblk aimoff : Nat) (aimz0 : Nat → ByteArray) (aimz1 : Nat → ByteArray) (aimt2 : Nat → Int) (aimt3 : Nat → Int) (aimt4 : Nat → Int) (aimt5 : Nat → Int) (aimt6 : Nat → Int) (aimu7 : Nat → Bool) (aimt8 : Nat → Int) (aimt9 : Nat → Int) (aimu10 : Nat → Bool) (aimt11 : Nat → Int) (aimu12 : Nat → Bool) (bimblk bimoff : Nat) (bimz0 : Nat → ByteArray) (bimz1 : Nat → ByteArray) (bimt2 : Nat → Int) (bimt3 : Nat → Int) (bimt4 : Nat → Int) (bimt5 : Nat → Int) (bimt6 : Nat → Int) (bimu7 : Nat → Bool) (bimt8 : Nat → Int) (bimt9 : Nat → Int) (bimu10 : Nat → Bool) (bimt11 : Nat → Int) (bimu12 : Nat → Bool) (afblk afoff : Nat) (aft0 : Nat → Int) (afp1 : Nat → Option Addr) (afn1 afc1 : Nat → Nat) (afp2 : Nat → Option Addr) (afn2 afc2 : Nat → Nat) (bfblk bfoff : Nat) (bft0 : Nat → Int) (bfp1 : Nat → Option Addr) (bfn1 bfc1 : Nat → Nat) (bfp2 : Nat → Option Addr) (bfn2 bfc2 : Nat → Nat) (fA : Nat → Bool) (fB : Nat → Bool) (atbblk atboff : Nat) (atbt0 : Nat → Int) (atbt1 : Nat → Int) (atbt2 : Nat → Int) (atbu3 : Nat → Bool) (btbblk btboff : Nat) (btbt0 : Nat → Int) (btbt1 : Nat → Int) (btbt2 : Nat → Int) (btbu3 : Nat → Bool) (amblk amoff : Nat) (amt0 : Nat → Int) (amt1 : Nat → Int) (amu2 : Nat → Bool) (bmblk bmoff : Nat) (bmt0 : Nat → Int) (bmt1 : Nat → Int) (bmu2 : Nat → Bool) (agblk agoff : Nat) (agt0 : Nat → Int) (agu1 : Nat → Bool) (agp2 : Nat → Option Addr) (agn2 agc2 : Nat → Nat) (bgblk bgoff : Nat) (bgt0 : Nat → Int) (bgu1 : Nat → Bool) (bgp2 : Nat → Option Addr) (bgn2 bgc2 : Nat → Nat) (gA : Nat → Bool) (axblk axoff : Nat) (axz0 : Nat → ByteArray) (axt1 : Nat → Int) (axt2 : Nat → Int) (bxblk bxoff : Nat) (bxz0 : Nat → ByteArray) (bxt1 : Nat → Int) (bxt2 : Nat → Int) (sb : Bool) (w : World)
  (hatl : atn < 9223372036854775807) (hatg : atn ≠ 0 → atp = some ⟨atblk,atoff,none⟩ ∧ atblk < w.heap.size)
  (hatx : ∀ i,i < atn → w.cell? ⟨atblk,atoff + i * 2,none⟩ = some (.slice (atp0 i) (atn0 i) (atc0 i)) ∧ w.cell? ⟨atblk,atoff + i * 2 + 1,none⟩ = some (.slice (atp1 i) (atn1 i) (atc1 i)))
  (hbtl : btn < 9223372036854775807) (hbtg : btn ≠ 0 → btp = some ⟨btblk,btoff,none⟩ ∧ btblk < w.heap.size)
  (hbtx : ∀ i,i < btn → w.cell? ⟨btblk,btoff + i * 2,none⟩ = some (.slice (btp0 i) (btn0 i) (btc0 i)) ∧ w.cell? ⟨btblk,btoff + i * 2 + 1,none⟩ = some (.slice (btp1 i) (btn1 i) (btc1 i)))
  (htA : ∀ i,i < atn → i < btn → ∀ W,Below w.heap.size w W → Calls Tryz.prog 92 #[.slice (atp0 i) (atn0 i) (atc0 i),.slice (btp0 i) (btn0 i) (btc0 i)] W fun e w' => e = .returned (.bool (tA i)) ∧ Below W.heap.size W w')
  (htB : ∀ i,i < atn → i < btn → ∀ W,Below w.heap.size w W → Calls Tryz.prog 92 #[.slice (atp1 i) (atn1 i) (atc1 i),.slice (btp1 i) (btn1 i) (btc1 i)] W fun e w' => e = .returned (.bool (tB i)) ∧ Below W.heap.size W w')
  (haiml : aimn < 9223372036854775807) (haimg : aimn ≠ 0 → aimp = some ⟨aimblk,aimoff,none⟩ ∧ aimblk < w.heap.size)
  (haimx : ∀ i,i < aimn → w.cell? ⟨aimblk,aimoff + i * 13,none⟩ = some (.string (aimz0 i)) ∧ w.cell? ⟨aimblk,aimoff + i * 13 + 1,none⟩ = some (.string (aimz1 i)) ∧ w.cell? ⟨aimblk,aimoff + i * 13 + 2,none⟩ = some (.int .i64 (aimt2 i)) ∧ w.cell? ⟨aimblk,aimoff + i * 13 + 3,none⟩ = some (.int .i64 (aimt3 i)) ∧ w.cell? ⟨aimblk,aimoff + i * 13 + 4,none⟩ = some (.int .i64 (aimt4 i)) ∧ w.cell? ⟨aimblk,aimoff + i * 13 + 5,none⟩ = some (.int .i64 (aimt5 i)) ∧ w.cell? ⟨aimblk,aimoff + i * 13 + 6,none⟩ = some (.int .i64 (aimt6 i)) ∧ w.cell? ⟨aimblk,aimoff + i * 13 + 7,none⟩ = some (.bool (aimu7 i)) ∧ w.cell? ⟨aimblk,aimoff + i * 13 + 8,none⟩ = some (.int .i64 (aimt8 i)) ∧ w.cell? ⟨aimblk,aimoff + i * 13 + 9,none⟩ = some (.int .i64 (aimt9 i)) ∧ w.cell? ⟨aimblk,aimoff + i * 13 + 10,none⟩ = some (.bool (aimu10 i)) ∧ w.cell? ⟨aimblk,aimoff + i * 13 + 11,none⟩ = some (.int .i64 (aimt11 i)) ∧ w.cell? ⟨aimblk,aimoff + i * 13 + 12,none⟩ = some (.bool (aimu12 i)))
  (hbiml : bimn < 9223372036854775807) (hbimg : bimn ≠ 0 → bimp = some ⟨bimblk,bimoff,none⟩ ∧ bimblk < w.heap.size)
  (hbimx : ∀ i,i < bimn → w.cell? ⟨bimblk,bimoff + i * 13,none⟩ = some (.string (bimz0 i)) ∧ w.cell? ⟨bimblk,bimoff + i * 13 + 1,none⟩ = some (.string (bimz1 i)) ∧ w.cell? ⟨bimblk,bimoff + i * 13 + 2,none⟩ = some (.int .i64 (bimt2 i)) ∧ w.cell? ⟨bimblk,bimoff + i * 13 + 3,none⟩ = some (.int .i64 (bimt3 i)) ∧ w.cell? ⟨bimblk,bimoff + i * 13 + 4,none⟩ = some (.int .i64 (bimt4 i)) ∧ w.cell? ⟨bimblk,bimoff + i * 13 + 5,none⟩ = some (.int .i64 (bimt5 i)) ∧ w.cell? ⟨bimblk,bimoff + i * 13 + 6,none⟩ = some (.int .i64 (bimt6 i)) ∧ w.cell? ⟨bimblk,bimoff + i * 13 + 7,none⟩ = some (.bool (bimu7 i)) ∧ w.cell? ⟨bimblk,bimoff + i * 13 + 8,none⟩ = some (.int .i64 (bimt8 i)) ∧ w.cell? ⟨bimblk,bimoff + i * 13 + 9,none⟩ = some (.int .i64 (bimt9 i)) ∧ w.cell? ⟨bimblk,bimoff + i * 13 + 10,none⟩ = some (.bool (bimu10 i)) ∧ w.cell? ⟨bimblk,bimoff + i * 13 + 11,none⟩ = some (.int .i64 (bimt11 i)) ∧ w.cell? ⟨bimblk,bimoff + i * 13 + 12,none⟩ = some (.bool (bimu12 i)))
  (hafl : afn < 9223372036854775807) (hafg : afn ≠ 0 → afp = some ⟨afblk,afoff,none⟩ ∧ afblk < w.heap.size)
  (hafx : ∀ i,i < afn → w.cell? ⟨afblk,afoff + i * 3,none⟩ = some (.int .i64 (aft0 i)) ∧ w.cell? ⟨afblk,afoff + i * 3 + 1,none⟩ = some (.slice (afp1 i) (afn1 i) (afc1 i)) ∧ w.cell? ⟨afblk,afoff + i * 3 + 2,none⟩ = some (.slice (afp2 i) (afn2 i) (afc2 i)))
  (hbfl : bfn < 9223372036854775807) (hbfg : bfn ≠ 0 → bfp = some ⟨bfblk,bfoff,none⟩ ∧ bfblk < w.heap.size)
  (hbfx : ∀ i,i < bfn → w.cell? ⟨bfblk,bfoff + i * 3,none⟩ = some (.int .i64 (bft0 i)) ∧ w.cell? ⟨bfblk,bfoff + i * 3 + 1,none⟩ = some (.slice (bfp1 i) (bfn1 i) (bfc1 i)) ∧ w.cell? ⟨bfblk,bfoff + i * 3 + 2,none⟩ = some (.slice (bfp2 i) (bfn2 i) (bfc2 i)))
  (hfA : ∀ i,i < afn → i < bfn → ∀ W,Below w.heap.size w W → Calls Tryz.prog 92 #[.slice (afp1 i) (afn1 i) (afc1 i),.slice (bfp1 i) (bfn1 i) (bfc1 i)] W fun e w' => e = .returned (.bool (fA i)) ∧ Below W.heap.size W w')
  (hfB : ∀ i,i < afn → i < bfn → ∀ W,Below w.heap.size w W → Calls Tryz.prog 93 #[.slice (afp2 i) (afn2 i) (afc2 i),.slice (bfp2 i) (bfn2 i) (bfc2 i)] W fun e w' => e = .returned (.bool (fB i)) ∧ Below W.heap.size W w')
  (hatbl : atbn < 9223372036854775807) (hatbg : atbn ≠ 0 → atbp = some ⟨atbblk,atboff,none⟩ ∧ atbblk < w.heap.size)
  (hatbx : ∀ i,i < atbn → w.cell? ⟨atbblk,atboff + i * 4,none⟩ = some (.int .i64 (atbt0 i)) ∧ w.cell? ⟨atbblk,atboff + i * 4 + 1,none⟩ = some (.int .i64 (atbt1 i)) ∧ w.cell? ⟨atbblk,atboff + i * 4 + 2,none⟩ = some (.int .i64 (atbt2 i)) ∧ w.cell? ⟨atbblk,atboff + i * 4 + 3,none⟩ = some (.bool (atbu3 i)))
  (hbtbl : btbn < 9223372036854775807) (hbtbg : btbn ≠ 0 → btbp = some ⟨btbblk,btboff,none⟩ ∧ btbblk < w.heap.size)
  (hbtbx : ∀ i,i < btbn → w.cell? ⟨btbblk,btboff + i * 4,none⟩ = some (.int .i64 (btbt0 i)) ∧ w.cell? ⟨btbblk,btboff + i * 4 + 1,none⟩ = some (.int .i64 (btbt1 i)) ∧ w.cell? ⟨btbblk,btboff + i * 4 + 2,none⟩ = some (.int .i64 (btbt2 i)) ∧ w.cell? ⟨btbblk,btboff + i * 4 + 3,none⟩ = some (.bool (btbu3 i)))
  (haml : amn < 9223372036854775807) (hamg : amn ≠ 0 → amp = some ⟨amblk,amoff,none⟩ ∧ amblk < w.heap.size)
  (hamx : ∀ i,i < amn → w.cell? ⟨amblk,amoff + i * 3,none⟩ = some (.int .i64 (amt0 i)) ∧ w.cell? ⟨amblk,amoff + i * 3 + 1,none⟩ = some (.int .i64 (amt1 i)) ∧ w.cell? ⟨amblk,amoff + i * 3 + 2,none⟩ = some (.bool (amu2 i)))
  (hbml : bmn < 9223372036854775807) (hbmg : bmn ≠ 0 → bmp = some ⟨bmblk,bmoff,none⟩ ∧ bmblk < w.heap.size)
  (hbmx : ∀ i,i < bmn → w.cell? ⟨bmblk,bmoff + i * 3,none⟩ = some (.int .i64 (bmt0 i)) ∧ w.cell? ⟨bmblk,bmoff + i * 3 + 1,none⟩ = some (.int .i64 (bmt1 i)) ∧ w.cell? ⟨bmblk,bmoff + i * 3 + 2,none⟩ = some (.bool (bmu2 i)))
  (hagl : agn < 9223372036854775807) (hagg : agn ≠ 0 → agp = some ⟨agblk,agoff,none⟩ ∧ agblk < w.heap.size)
  (hagx : ∀ i,i < agn → w.cell? ⟨agblk,agoff + i * 3,none⟩ = some (.int .i64 (agt0 i)) ∧ w.cell? ⟨agblk,agoff + i * 3 + 1,none⟩ = some (.bool (agu1 i)) ∧ w.cell? ⟨agblk,agoff + i * 3 + 2,none⟩ = some (.slice (agp2 i) (agn2 i) (agc2 i)))
  (hbgl : bgn < 9223372036854775807) (hbgg : bgn ≠ 0 → bgp = some ⟨bgblk,bgoff,none⟩ ∧ bgblk < w.heap.size)
  (hbgx : ∀ i,i < bgn → w.cell? ⟨bgblk,bgoff + i * 3,none⟩ = some (.int .i64 (bgt0 i)) ∧ w.cell? ⟨bgblk,bgoff + i * 3 + 1,none⟩ = some (.bool (bgu1 i)) ∧ w.cell? ⟨bgblk,bgoff + i * 3 + 2,none⟩ = some (.slice (bgp2 i) (bgn2 i) (bgc2 i)))
  (hgA : ∀ i,i < agn → i < bgn → ∀ W,Below w.heap.size w W → Calls Tryz.prog 93 #[.slice (agp2 i) (agn2 i) (agc2 i),.slice (bgp2 i) (bgn2 i) (bgc2 i)] W fun e w' => e = .returned (.bool (gA i)) ∧ Below W.heap.size W w')
  (haxl : axn < 9223372036854775807) (haxg : axn ≠ 0 → axp = some ⟨axblk,axoff,none⟩ ∧ axblk < w.heap.size)
  (haxx : ∀ i,i < axn → w.cell? ⟨axblk,axoff + i * 3,none⟩ = some (.string (axz0 i)) ∧ w.cell? ⟨axblk,axoff + i * 3 + 1,none⟩ = some (.int .i64 (axt1 i)) ∧ w.cell? ⟨axblk,axoff + i * 3 + 2,none⟩ = some (.int .i64 (axt2 i)))
  (hbxl : bxn < 9223372036854775807) (hbxg : bxn ≠ 0 → bxp = some ⟨bxblk,bxoff,none⟩ ∧ bxblk < w.heap.size)
  (hbxx : ∀ i,i < bxn → w.cell? ⟨bxblk,bxoff + i * 3,none⟩ = some (.string (bxz0 i)) ∧ w.cell? ⟨bxblk,bxoff + i * 3 + 1,none⟩ = some (.int .i64 (bxt1 i)) ∧ w.cell? ⟨bxblk,bxoff + i * 3 + 2,none⟩ = some (.int .i64 (bxt2 i)))
  (hsg : atn = btn → aimn = bimn → afn = bfn → atbn = btbn → amn = bmn → agn = bgn → axn = bxn → aen = ben → adn = bdn → ∀ W,Below w.heap.size w W → Calls Tryz.prog 94 #[.agg #[.slice atp atn atc,.slice aimp aimn aimc,.slice afp afn afc,.slice atbp atbn atbc,.slice amp amn amc,.slice agp agn agc,.slice axp axn axc,.int .i64 ast,.slice aep aen aec,.slice adp adn adc,.bool acnt],.agg #[.slice btp btn btc,.slice bimp bimn bimc,.slice bfp bfn bfc,.slice btbp btbn btbc,.slice bmp bmn bmc,.slice bgp bgn bgc,.slice bxp bxn bxc,.int .i64 bst,.slice bep ben bec,.slice bdp bdn bdc,.bool bcnt]] W fun e w' => e = .returned (.bool sb) ∧ Below W.heap.size W w') :
  Calls Tryz.prog 20 #[.agg #[.slice atp atn atc,.slice aimp aimn aimc,.slice afp afn afc,.slice atbp atbn atbc,.slice amp amn amc,.slice agp agn agc,.slice axp axn axc,.int .i64 ast,.slice aep aen aec,.slice adp adn adc,.bool acnt],.agg #[.slice btp btn btc,.slice bimp bimn bimc,.slice bfp bfn bfc,.slice btbp btbn btbc,.slice bmp bmn bmc,.slice bgp bgn bgc,.slice bxp bxn bxc,.int .i64 bst,.slice bep ben bec,.slice bdp bdn bdc,.bool bcnt]] w fun e w' => e = .returned (.bool ((atn == btn) && (aimn == bimn) && (afn == bfn) && (atbn == btbn) && (amn == bmn) && (agn == bgn) && (axn == bxn) && (ast == bst) && (aen == ben) && (adn == bdn) && (acnt == bcnt) && ((List.range atn).all (fun i => tA i && tB i) && (List.range aimn).all (fun i => ((aimz0 i == bimz0 i) && (aimz1 i == bimz1 i) && (aimt2 i == bimt2 i) && (aimt3 i == bimt3 i) && (aimt4 i == bimt4 i) && (aimt5 i == bimt5 i) && (aimt6 i == bimt6 i) && (aimu7 i == bimu7 i) && (aimt8 i == bimt8 i) && (aimt9 i == bimt9 i) && (aimu10 i == bimu10 i) && (aimt11 i == bimt11 i) && (aimu12 i == bimu12 i))) && (List.range afn).all (fun i => fA i && fB i && (aft0 i == bft0 i)) && (List.range atbn).all (fun i => ((atbt0 i == btbt0 i) && (atbt1 i == btbt1 i) && (atbt2 i == btbt2 i) && (atbu3 i == btbu3 i))) && (List.range amn).all (fun i => ((amt0 i == bmt0 i) && (amt1 i == bmt1 i) && (amu2 i == bmu2 i))) && (List.range agn).all (fun i => gA i && ((agt0 i == bgt0 i) && (agu1 i == bgu1 i))) && (List.range axn).all (fun i => ((axz0 i == bxz0 i) && (axt1 i == bxt1 i) && (axt2 i == bxt2 i))) && sb))) ∧ Below w.heap.size w w' := by
 have HatG := hid hatg
 have HatX := hid hatx
 have Nat62 := hid (show (atn : Int) < 9223372036854775807 by omega)
 have HbtG := hid hbtg
 have HbtX := hid hbtx
 have Nbt62 := hid (show (btn : Int) < 9223372036854775807 by omega)
 have HtA := hid htA
 have HtB := hid htB
 have HaimG := hid haimg
 have HaimX := hid haimx
 have Naim62 := hid (show (aimn : Int) < 9223372036854775807 by omega)
 have HbimG := hid hbimg
 have HbimX := hid hbimx
 have Nbim62 := hid (show (bimn : Int) < 9223372036854775807 by omega)
 have HafG := hid hafg
 have HafX := hid hafx
 have Naf62 := hid (show (afn : Int) < 9223372036854775807 by omega)
 have HbfG := hid hbfg
 have HbfX := hid hbfx
 have Nbf62 := hid (show (bfn : Int) < 9223372036854775807 by omega)
 have HfA := hid hfA
 have HfB := hid hfB
 have HatbG := hid hatbg
 have HatbX := hid hatbx
 have Natb62 := hid (show (atbn : Int) < 9223372036854775807 by omega)
 have HbtbG := hid hbtbg
 have HbtbX := hid hbtbx
 have Nbtb62 := hid (show (btbn : Int) < 9223372036854775807 by omega)
 have HamG := hid hamg
 have HamX := hid hamx
 have Nam62 := hid (show (amn : Int) < 9223372036854775807 by omega)
 have HbmG := hid hbmg
 have HbmX := hid hbmx
 have Nbm62 := hid (show (bmn : Int) < 9223372036854775807 by omega)
 have HagG := hid hagg
 have HagX := hid hagx
 have Nag62 := hid (show (agn : Int) < 9223372036854775807 by omega)
 have HbgG := hid hbgg
 have HbgX := hid hbgx
 have Nbg62 := hid (show (bgn : Int) < 9223372036854775807 by omega)
 have HgA := hid hgA
 have HaxG := hid haxg
 have HaxX := hid haxx
 have Nax62 := hid (show (axn : Int) < 9223372036854775807 by omega)
 have HbxG := hid hbxg
 have HbxX := hid hbxx
 have Nbx62 := hid (show (bxn : Int) < 9223372036854775807 by omega)
 have HSG := hid hsg
 obtain ⟨Qt,hQt⟩ : ∃ Q : Nat → Bool,Q = (fun i => tA i && tB i) := ⟨_,rfl⟩
 rw [← hQt]
 have HQt := hid hQt
 obtain ⟨Qim,hQim⟩ : ∃ Q : Nat → Bool,Q = (fun i => ((aimz0 i == bimz0 i) && (aimz1 i == bimz1 i) && (aimt2 i == bimt2 i) && (aimt3 i == bimt3 i) && (aimt4 i == bimt4 i) && (aimt5 i == bimt5 i) && (aimt6 i == bimt6 i) && (aimu7 i == bimu7 i) && (aimt8 i == bimt8 i) && (aimt9 i == bimt9 i) && (aimu10 i == bimu10 i) && (aimt11 i == bimt11 i) && (aimu12 i == bimu12 i))) := ⟨_,rfl⟩
 rw [← hQim]
 have HQim := hid hQim
 obtain ⟨Qf,hQf⟩ : ∃ Q : Nat → Bool,Q = (fun i => fA i && fB i && (aft0 i == bft0 i)) := ⟨_,rfl⟩
 rw [← hQf]
 have HQf := hid hQf
 obtain ⟨Qtb,hQtb⟩ : ∃ Q : Nat → Bool,Q = (fun i => ((atbt0 i == btbt0 i) && (atbt1 i == btbt1 i) && (atbt2 i == btbt2 i) && (atbu3 i == btbu3 i))) := ⟨_,rfl⟩
 rw [← hQtb]
 have HQtb := hid hQtb
 obtain ⟨Qm,hQm⟩ : ∃ Q : Nat → Bool,Q = (fun i => ((amt0 i == bmt0 i) && (amt1 i == bmt1 i) && (amu2 i == bmu2 i))) := ⟨_,rfl⟩
 rw [← hQm]
 have HQm := hid hQm
 obtain ⟨Qg,hQg⟩ : ∃ Q : Nat → Bool,Q = (fun i => gA i && ((agt0 i == bgt0 i) && (agu1 i == bgu1 i))) := ⟨_,rfl⟩
 rw [← hQg]
 have HQg := hid hQg
 obtain ⟨Qx,hQx⟩ : ∃ Q : Nat → Bool,Q = (fun i => ((axz0 i == bxz0 i) && (axt1 i == bxt1 i) && (axt2 i == bxt2 i))) := ⟨_,rfl⟩
 rw [← hQx]
 have HQx := hid hQx
 obtain ⟨R,hR⟩ : ∃ R,R = ((atn == btn) && (aimn == bimn) && (afn == bfn) && (atbn == btbn) && (amn == bmn) && (agn == bgn) && (axn == bxn) && (ast == bst) && (aen == ben) && (adn == bdn) && (acnt == bcnt) && ((List.range atn).all Qt && (List.range aimn).all Qim && (List.range afn).all Qf && (List.range atbn).all Qtb && (List.range amn).all Qm && (List.range agn).all Qg && (List.range axn).all Qx && sb)) := ⟨_,rfl⟩
 rw [← hR]
 have HR := hid hR
 have HX0 := hid ((CA.new w #[.slice atp atn atc,.slice aimp aimn aimc,.slice afp afn afc,.slice atbp atbn atbc,.slice amp amn amc,.slice agp agn agc,.slice axp axn axc,.int .i64 ast,.slice aep aen aec,.slice adp adn adc,.bool acnt] 32).alloc (.cells #[.slice btp btn btc,.slice bimp bimn bimc,.slice bfp bfn bfc,.slice btbp btbn btbc,.slice bmp bmn bmc,.slice bgp bgn bgc,.slice bxp bxn bxc,.int .i64 bst,.slice bep ben bec,.slice bdp bdn bdc,.bool bcnt] 32))
 have HY0 := hid (CA.new (w.alloc (.cells #[.slice atp atn atc,.slice aimp aimn aimc,.slice afp afn afc,.slice atbp atbn atbc,.slice amp amn amc,.slice agp agn agc,.slice axp axn axc,.int .i64 ast,.slice aep aen aec,.slice adp adn adc,.bool acnt] 32)) #[.slice btp btn btc,.slice bimp bimn bimc,.slice bfp bfn bfc,.slice btbp btbn btbc,.slice bmp bmn bmc,.slice bgp bgn bgc,.slice bxp bxn bxc,.int .i64 bst,.slice bep ben bec,.slice bdp bdn bdc,.bool bcnt] 32)
 rw [size_al] at HY0
 have HB0 := hid (((Below.refl w.heap.size w).alloc (Nat.le_refl _) (.cells #[.slice atp atn atc,.slice aimp aimn aimc,.slice afp afn afc,.slice atbp atbn atbc,.slice amp amn amc,.slice agp agn agc,.slice axp axn axc,.int .i64 ast,.slice aep aen aec,.slice adp adn adc,.bool acnt] 32)).alloc (by rw [size_al]; omega) (.cells #[.slice btp btn btc,.slice bimp bimn bimc,.slice bfp bfn bfc,.slice btbp btbn btbc,.slice bmp bmn bmc,.slice bgp bgn bgc,.slice bxp bxn bxc,.int .i64 bst,.slice bep ben bec,.slice bdp bdn bdc,.bool bcnt] 32))
 clear hatg hatx hatl hbtg hbtx hbtl htA htB haimg haimx haiml hbimg hbimx hbiml hafg hafx hafl hbfg hbfx hbfl hfA hfB hatbg hatbx hatbl hbtbg hbtbx hbtbl hamg hamx haml hbmg hbmx hbml hagg hagx hagl hbgg hbgx hbgl hgA haxg haxx haxl hbxg hbxx hbxl hsg hQt hQim hQf hQtb hQm hQg hQx hR
 go_enter Tryz.func20,Tryz.ntmps20
 go_upto_region 1 with fail
 have y0 := HX0.out.at (k := 0) (v := .slice atp atn atc) rfl
 have u0 := HY0.out.at (k := 0) (v := .slice btp btn btc) rfl
 have y1 := HX0.out.at (k := 1) (v := .slice aimp aimn aimc) rfl
 have u1 := HY0.out.at (k := 1) (v := .slice bimp bimn bimc) rfl
 have y2 := HX0.out.at (k := 2) (v := .slice afp afn afc) rfl
 have u2 := HY0.out.at (k := 2) (v := .slice bfp bfn bfc) rfl
 have y3 := HX0.out.at (k := 3) (v := .slice atbp atbn atbc) rfl
 have u3 := HY0.out.at (k := 3) (v := .slice btbp btbn btbc) rfl
 have y4 := HX0.out.at (k := 4) (v := .slice amp amn amc) rfl
 have u4 := HY0.out.at (k := 4) (v := .slice bmp bmn bmc) rfl
 have y5 := HX0.out.at (k := 5) (v := .slice agp agn agc) rfl
 have u5 := HY0.out.at (k := 5) (v := .slice bgp bgn bgc) rfl
 have y6 := HX0.out.at (k := 6) (v := .slice axp axn axc) rfl
 have u6 := HY0.out.at (k := 6) (v := .slice bxp bxn bxc) rfl
 have y7 := HX0.out.at (k := 7) (v := .int .i64 ast) rfl
 have u7 := HY0.out.at (k := 7) (v := .int .i64 bst) rfl
 have y8 := HX0.out.at (k := 8) (v := .slice aep aen aec) rfl
 have u8 := HY0.out.at (k := 8) (v := .slice bep ben bec) rfl
 have y9 := HX0.out.at (k := 9) (v := .slice adp adn adc) rfl
 have u9 := HY0.out.at (k := 9) (v := .slice bdp bdn bdc) rfl
 have y10 := HX0.out.at (k := 10) (v := .bool acnt) rfl
 have u10 := HY0.out.at (k := 10) (v := .bool bcnt) rfl
 generalize ((w.alloc (.cells #[.slice atp atn atc,.slice aimp aimn aimc,.slice afp afn afc,.slice atbp atbn atbc,.slice amp amn amc,.slice agp agn agc,.slice axp axn axc,.int .i64 ast,.slice aep aen aec,.slice adp adn adc,.bool acnt] 32)).alloc (.cells #[.slice btp btn btc,.slice bimp bimn bimc,.slice bfp bfn bfc,.slice btbp btbn btbc,.slice bmp bmn bmc,.slice bgp bgn bgc,.slice bxp bxn bxc,.int .i64 bst,.slice bep ben bec,.slice bdp bdn bdc,.bool bcnt] 32)) = W0 at *
 simp only [List.append_eq,List.cons_append,List.nil_append]
 by_cases h0 : atn = btn
 case neg => as_aux_lemma =>
   have HE : Hid (R = false) := hid (by rw [HR.out,beq_eq_false_iff_ne.2 h0]; simp only [Bool.false_and,Bool.and_false])
   have d0 : ((atn : Int) != (btn : Int)) = true := by simp; omega
   clear h0
   go_wp2
   go_ret
   exact ⟨by rw [HE.out]; rfl,HB0.out⟩
 subst h0
 have d0 : ((atn : Int) != (atn : Int)) = false := by simp
 by_cases h1 : aimn = bimn
 case neg => as_aux_lemma =>
   have HE : Hid (R = false) := hid (by rw [HR.out,beq_eq_false_iff_ne.2 h1]; simp only [Bool.false_and,Bool.and_false])
   have d1 : ((aimn : Int) != (bimn : Int)) = true := by simp; omega
   clear h1
   go_wp2
   go_ret
   exact ⟨by rw [HE.out]; rfl,HB0.out⟩
 subst h1
 have d1 : ((aimn : Int) != (aimn : Int)) = false := by simp
 by_cases h2 : afn = bfn
 case neg => as_aux_lemma =>
   have HE : Hid (R = false) := hid (by rw [HR.out,beq_eq_false_iff_ne.2 h2]; simp only [Bool.false_and,Bool.and_false])
   have d2 : ((afn : Int) != (bfn : Int)) = true := by simp; omega
   clear h2
   go_wp2
   go_ret
   exact ⟨by rw [HE.out]; rfl,HB0.out⟩
 subst h2
 have d2 : ((afn : Int) != (afn : Int)) = false := by simp
 by_cases h3 : atbn = btbn
 case neg => as_aux_lemma =>
   have HE : Hid (R = false) := hid (by rw [HR.out,beq_eq_false_iff_ne.2 h3]; simp only [Bool.false_and,Bool.and_false])
   have d3 : ((atbn : Int) != (btbn : Int)) = true := by simp; omega
   clear h3
   go_wp2
   go_ret
   exact ⟨by rw [HE.out]; rfl,HB0.out⟩
 subst h3
 have d3 : ((atbn : Int) != (atbn : Int)) = false := by simp
 by_cases h4 : amn = bmn
 case neg => as_aux_lemma =>
   have HE : Hid (R = false) := hid (by rw [HR.out,beq_eq_false_iff_ne.2 h4]; simp only [Bool.false_and,Bool.and_false])
   have d4 : ((amn : Int) != (bmn : Int)) = true := by simp; omega
   clear h4
   go_wp2
   go_ret
   exact ⟨by rw [HE.out]; rfl,HB0.out⟩
 subst h4
 have d4 : ((amn : Int) != (amn : Int)) = false := by simp
 by_cases h5 : agn = bgn
 case neg => as_aux_lemma =>
   have HE : Hid (R = false) := hid (by rw [HR.out,beq_eq_false_iff_ne.2 h5]; simp only [Bool.false_and,Bool.and_false])
   have d5 : ((agn : Int) != (bgn : Int)) = true := by simp; omega
   clear h5
   go_wp2
   go_ret
   exact ⟨by rw [HE.out]; rfl,HB0.out⟩
 subst h5
 have d5 : ((agn : Int) != (agn : Int)) = false := by simp
 by_cases h6 : axn = bxn
 case neg => as_aux_lemma =>
   have HE : Hid (R = false) := hid (by rw [HR.out,beq_eq_false_iff_ne.2 h6]; simp only [Bool.false_and,Bool.and_false])
   have d6 : ((axn : Int) != (bxn : Int)) = true := by simp; omega
   clear h6
   go_wp2
   go_ret
   exact ⟨by rw [HE.out]; rfl,HB0.out⟩
 subst h6
 have d6 : ((axn : Int) != (axn : Int)) = false := by simp
 by_cases h7 : ast = bst
 case neg => as_aux_lemma =>
   have HE : Hid (R = false) := hid (by rw [HR.out,beq_eq_false_iff_ne.2 h7]; simp only [Bool.false_and,Bool.and_false])
   have d7 : (ast != bst) = true := by simp; omega
   clear h7
   go_wp2
   go_ret
   exact ⟨by rw [HE.out]; rfl,HB0.out⟩
 subst h7
 have d7 : (ast != ast) = false := by simp
 by_cases h8 : aen = ben
 case neg => as_aux_lemma =>
   have HE : Hid (R = false) := hid (by rw [HR.out,beq_eq_false_iff_ne.2 h8]; simp only [Bool.false_and,Bool.and_false])
   have d8 : ((aen : Int) != (ben : Int)) = true := by simp; omega
   clear h8
   go_wp2
   go_ret
   exact ⟨by rw [HE.out]; rfl,HB0.out⟩
 subst h8
 have d8 : ((aen : Int) != (aen : Int)) = false := by simp
 by_cases h9 : adn = bdn
 case neg => as_aux_lemma =>
   have HE : Hid (R = false) := hid (by rw [HR.out,beq_eq_false_iff_ne.2 h9]; simp only [Bool.false_and,Bool.and_false])
   have d9 : ((adn : Int) != (bdn : Int)) = true := by simp; omega
   clear h9
   go_wp2
   go_ret
   exact ⟨by rw [HE.out]; rfl,HB0.out⟩
 subst h9
 have d9 : ((adn : Int) != (adn : Int)) = false := by simp
 by_cases h10 : acnt = bcnt
 case neg => as_aux_lemma =>
   have HE : Hid (R = false) := hid (by rw [HR.out,beq_eq_false_iff_ne.2 h10]; simp only [Bool.false_and,Bool.and_false])
   cases acnt <;> cases bcnt <;> first | exact absurd rfl h10 | skip
   all_goals
    clear h10
    go_wp2
    go_ret
    exact ⟨by rw [HE.out]; rfl,HB0.out⟩
 subst h10
 have HR2 := hid (show R = ((List.range atn).all Qt && (List.range aimn).all Qim && (List.range afn).all Qf && (List.range atbn).all Qtb && (List.range amn).all Qm && (List.range agn).all Qg && (List.range axn).all Qx && sb) by rw [HR.out]; simp)
 clear HR
 have HK0 : Hid (true = true) := rfl
 have nat62 := Nat62.out
 go_upto_region 4 with fail
 clear y0 u0 y1 u1 y2 u2 y3 u3 y4 u4 y5 u5 y6 u6 y7 u7 y8 u8 y9 u9 y10 u10 d0 d1 d2 d3 d4 d5 d6 d7 d8 d9
 have y0 := HX0.out.at (k := 0) (v := .slice atp atn atc) rfl
 go_wp2
 go_loopw [5,6] (fun vo vi wr => ∃ (i : Nat) (ok : Bool),i ≤ atn ∧ vi = .int .i64 i ∧ vo = .bool ok ∧ Hid (ok = (true && (List.range i).all Qt)) ∧ Hid (Below w.heap.size w wr) ∧ Hid (CA w.heap.size #[.slice atp atn atc,.slice aimp aimn aimc,.slice afp afn afc,.slice atbp atbn atbc,.slice amp amn amc,.slice agp agn agc,.slice axp axn axc,.int .i64 ast,.slice aep aen aec,.slice adp adn adc,.bool acnt] 32 wr) ∧ Hid (CA (w.heap.size + 1) #[.slice btp atn btc,.slice bimp aimn bimc,.slice bfp afn bfc,.slice btbp atbn btbc,.slice bmp amn bmc,.slice bgp agn bgc,.slice bxp axn bxc,.int .i64 ast,.slice bep aen bec,.slice bdp adn bdc,.bool acnt] 32 wr)) (fun _ vi _ => atn - (intOf vi).toNat)
 case atStart => exact ⟨0,true,Nat.zero_le _,rfl,rfl,by simp [Hid],HB0,HX0,HY0⟩
 clear y0
 obtain ⟨i,ok,hi,rfl,rfl,HK,HB,HX,HY⟩ := hrel
 have y0 := HX.out.at (k := 0) (v := .slice atp atn atc) rfl
 by_cases hlt : i < atn
 ·as_aux_lemma =>
   obtain ⟨z0,z1⟩ := HatX.out i hlt
   obtain ⟨v0,v1⟩ := HbtX.out i hlt
   obtain ⟨hpa,hga⟩ := HatG.out (by omega)
   obtain ⟨hpb,hgb⟩ := HbtG.out (by omega)
   subst hpa hpb
   have x0 := (HB.out.cell (p := ⟨atblk,atoff + i * 2,none⟩) hga).trans z0
   have w0 := (HB.out.cell (p := ⟨btblk,btoff + i * 2,none⟩) hgb).trans v0
   have x1 := (HB.out.cell (p := ⟨atblk,atoff + i * 2 + 1,none⟩) hga).trans z1
   have w1 := (HB.out.cell (p := ⟨btblk,btoff + i * 2 + 1,none⟩) hgb).trans v1
   have hga2 := Nat.lt_of_lt_of_le hga HB.out.size
   have hgb2 := Nat.lt_of_lt_of_le hgb HB.out.size
   clear z0 v0 z1 v1 hga hgb
   have KKA := fun W h => hid (HtA.out i hlt hlt W h)
   have KKB := fun W h => hid (HtB.out i hlt hlt W h)
   have HSN := hid (show (List.range (i + 1)).all Qt = ((List.range i).all Qt && (tA i && tB i)) by rw [range_all_snoc]; rw [HQt.out])
   generalize tA i = bA at *
   generalize tB i = bB at *
   generalize atp0 i = aq0 at *
   generalize atn0 i = am0 at *
   generalize atc0 i = ad0 at *
   generalize atp1 i = aq1 at *
   generalize atn1 i = am1 at *
   generalize atc1 i = ad1 at *
   generalize btp0 i = bq0 at *
   generalize btn0 i = bm0 at *
   generalize btc0 i = bd0 at *
   generalize btp1 i = bq1 at *
   generalize btn1 i = bm1 at *
   generalize btc1 i = bd1 at *
   have FX := fun W (h : Below wr.heap.size wr W) => hid (And.intro ((HX.out.below h HX.out.lt).at (k := 0) (v := .slice (some ⟨atblk,atoff,none⟩) atn atc) rfl) (And.intro ((HY.out.below h HY.out.lt).at (k := 0) (v := .slice (some ⟨btblk,btoff,none⟩) atn btc) rfl) (And.intro ((h.cell (p := ⟨atblk,atoff + i * 2,none⟩) hga2).trans x0) (And.intro ((h.cell (p := ⟨btblk,btoff + i * 2,none⟩) hgb2).trans w0) (And.intro ((h.cell (p := ⟨atblk,atoff + i * 2 + 1,none⟩) hga2).trans x1) ((h.cell (p := ⟨btblk,btoff + i * 2 + 1,none⟩) hgb2).trans w1))))))
   clear x0 w0 x1 w1 hga2 hgb2
   go_upto_region 7 with fail
   clear y0
   have hS : Below wr.heap.size wr wr.drew := (Below.refl _ _).drew
   refine wp_region_held_drew (S := fun W => Below wr.heap.size wr W) (by kernel_rfl) hS (fun _ => ?_)
   generalize wr.drew = W at *
   refine zt 0 (.pointer (some ⟨w.heap.size,0,none⟩)) rfl ?_ ?_
   ·(intro W hSw; obtain ⟨y,u,p0,r0,p1,r1⟩ := (FX W hSw).out; go_simp; try (exact wrap_b8 _); try (with_reducible rfl))
   try simp only [Act.put,sl2,sl0,sl1]
   refine zt 1 (.slice (some ⟨atblk,atoff,none⟩) atn atc) rfl ?_ ?_
   ·(intro W hSw; obtain ⟨y,u,p0,r0,p1,r1⟩ := (FX W hSw).out; go_simp; try (exact wrap_b8 _); try (with_reducible rfl))
   try simp only [Act.put,sl2,sl0,sl1]
   refine zt 2 (.int .i64 i) rfl ?_ ?_
   ·(intro W hSw; obtain ⟨y,u,p0,r0,p1,r1⟩ := (FX W hSw).out; go_simp; try (exact wrap_b8 _); try (with_reducible rfl))
   try simp only [Act.put,sl2,sl0,sl1]
   refine zt 3 (.pointer (some ⟨atblk,atoff + i * 2,none⟩)) rfl ?_ ?_
   ·(intro W hSw; obtain ⟨y,u,p0,r0,p1,r1⟩ := (FX W hSw).out; go_simp; try (exact wrap_b8 _); try (with_reducible rfl))
   try simp only [Act.put,sl2,sl0,sl1]
   refine zt 4 (.pointer (some ⟨atblk,atoff + i * 2,none⟩)) rfl ?_ ?_
   ·(intro W hSw; obtain ⟨y,u,p0,r0,p1,r1⟩ := (FX W hSw).out; go_simp; try (exact wrap_b8 _); try (with_reducible rfl))
   try simp only [Act.put,sl2,sl0,sl1]
   refine zt 5 (.slice aq0 am0 ad0) rfl ?_ ?_
   ·(intro W hSw; obtain ⟨y,u,p0,r0,p1,r1⟩ := (FX W hSw).out; go_simp; try (exact wrap_b8 _); try (with_reducible rfl))
   try simp only [Act.put,sl2,sl0,sl1]
   refine zt 6 (.pointer (some ⟨w.heap.size + 1,0,none⟩)) rfl ?_ ?_
   ·(intro W hSw; obtain ⟨y,u,p0,r0,p1,r1⟩ := (FX W hSw).out; go_simp; try (exact wrap_b8 _); try (with_reducible rfl))
   try simp only [Act.put,sl2,sl0,sl1]
   refine zt 7 (.slice (some ⟨btblk,btoff,none⟩) atn btc) rfl ?_ ?_
   ·(intro W hSw; obtain ⟨y,u,p0,r0,p1,r1⟩ := (FX W hSw).out; go_simp; try (exact wrap_b8 _); try (with_reducible rfl))
   try simp only [Act.put,sl2,sl0,sl1]
   refine zt 8 (.int .i64 i) rfl ?_ ?_
   ·(intro W hSw; obtain ⟨y,u,p0,r0,p1,r1⟩ := (FX W hSw).out; go_simp; try (exact wrap_b8 _); try (with_reducible rfl))
   try simp only [Act.put,sl2,sl0,sl1]
   refine zt 9 (.pointer (some ⟨btblk,btoff + i * 2,none⟩)) rfl ?_ ?_
   ·(intro W hSw; obtain ⟨y,u,p0,r0,p1,r1⟩ := (FX W hSw).out; go_simp; try (exact wrap_b8 _); try (with_reducible rfl))
   try simp only [Act.put,sl2,sl0,sl1]
   refine zt 10 (.pointer (some ⟨btblk,btoff + i * 2,none⟩)) rfl ?_ ?_
   ·(intro W hSw; obtain ⟨y,u,p0,r0,p1,r1⟩ := (FX W hSw).out; go_simp; try (exact wrap_b8 _); try (with_reducible rfl))
   try simp only [Act.put,sl2,sl0,sl1]
   refine zt 11 (.slice bq0 bm0 bd0) rfl ?_ ?_
   ·(intro W hSw; obtain ⟨y,u,p0,r0,p1,r1⟩ := (FX W hSw).out; go_simp; try (exact wrap_b8 _); try (with_reducible rfl))
   try simp only [Act.put,sl2,sl0,sl1]
   refine zr 12 rfl (fun K hK => ?_)
   go_simp
   go_at_call 92
   (with_reducible refine (KKA _ (HB.out.trans (hS.mono HB.out.size))).out.mono ?_)
   rintro e WA ⟨rfl,hb⟩
   replace hS := hS.trans (hb.mono hS.size)
   clear hb
   refine hK.out _ _ hS (fun _ => ?_)
   clear hK K
   try simp only [Act.put,sl2,sl0,sl1]
   refine zt 13 (.bool bA) rfl ?_ ?_
   ·(intro W hSw; obtain ⟨y,u,p0,r0,p1,r1⟩ := (FX W hSw).out; go_simp; try (exact wrap_b8 _); try (with_reducible rfl))
   try simp only [Act.put,sl2,sl0,sl1]
   refine wpAnyH_done (by kernel_rfl) ?_ _
   go_upto_region 8 with fail
   replace hS := hS.drew
   refine wp_region_held_drew (S := fun W => Below wr.heap.size wr W) (by kernel_rfl) hS (fun _ => ?_)
   generalize WA.drew = W at *
   refine zt 0 (.pointer (some ⟨w.heap.size,0,none⟩)) rfl ?_ ?_
   ·(intro W hSw; obtain ⟨y,u,p0,r0,p1,r1⟩ := (FX W hSw).out; go_simp; try (exact wrap_b8 _); try (with_reducible rfl))
   try simp only [Act.put,sl2,sl0,sl1]
   refine zt 1 (.slice (some ⟨atblk,atoff,none⟩) atn atc) rfl ?_ ?_
   ·(intro W hSw; obtain ⟨y,u,p0,r0,p1,r1⟩ := (FX W hSw).out; go_simp; try (exact wrap_b8 _); try (with_reducible rfl))
   try simp only [Act.put,sl2,sl0,sl1]
   refine zt 2 (.int .i64 i) rfl ?_ ?_
   ·(intro W hSw; obtain ⟨y,u,p0,r0,p1,r1⟩ := (FX W hSw).out; go_simp; try (exact wrap_b8 _); try (with_reducible rfl))
   try simp only [Act.put,sl2,sl0,sl1]
   refine zt 3 (.pointer (some ⟨atblk,atoff + i * 2,none⟩)) rfl ?_ ?_
   ·(intro W hSw; obtain ⟨y,u,p0,r0,p1,r1⟩ := (FX W hSw).out; go_simp; try (exact wrap_b8 _); try (with_reducible rfl))
   try simp only [Act.put,sl2,sl0,sl1]
   refine zt 4 (.pointer (some ⟨atblk,atoff + i * 2 + 1,none⟩)) rfl ?_ ?_
   ·(intro W hSw; obtain ⟨y,u,p0,r0,p1,r1⟩ := (FX W hSw).out; go_simp; try (exact wrap_b8 _); try (with_reducible rfl))
   try simp only [Act.put,sl2,sl0,sl1]
   refine zt 5 (.slice aq1 am1 ad1) rfl ?_ ?_
   ·(intro W hSw; obtain ⟨y,u,p0,r0,p1,r1⟩ := (FX W hSw).out; go_simp; try (exact wrap_b8 _); try (with_reducible rfl))
   try simp only [Act.put,sl2,sl0,sl1]
   refine zt 6 (.pointer (some ⟨w.heap.size + 1,0,none⟩)) rfl ?_ ?_
   ·(intro W hSw; obtain ⟨y,u,p0,r0,p1,r1⟩ := (FX W hSw).out; go_simp; try (exact wrap_b8 _); try (with_reducible rfl))
   try simp only [Act.put,sl2,sl0,sl1]
   refine zt 7 (.slice (some ⟨btblk,btoff,none⟩) atn btc) rfl ?_ ?_
   ·(intro W hSw; obtain ⟨y,u,p0,r0,p1,r1⟩ := (FX W hSw).out; go_simp; try (exact wrap_b8 _); try (with_reducible rfl))
   try simp only [Act.put,sl2,sl0,sl1]
   refine zt 8 (.int .i64 i) rfl ?_ ?_
   ·(intro W hSw; obtain ⟨y,u,p0,r0,p1,r1⟩ := (FX W hSw).out; go_simp; try (exact wrap_b8 _); try (with_reducible rfl))
   try simp only [Act.put,sl2,sl0,sl1]
   refine zt 9 (.pointer (some ⟨btblk,btoff + i * 2,none⟩)) rfl ?_ ?_
   ·(intro W hSw; obtain ⟨y,u,p0,r0,p1,r1⟩ := (FX W hSw).out; go_simp; try (exact wrap_b8 _); try (with_reducible rfl))
   try simp only [Act.put,sl2,sl0,sl1]
   refine zt 10 (.pointer (some ⟨btblk,btoff + i * 2 + 1,none⟩)) rfl ?_ ?_
   ·(intro W hSw; obtain ⟨y,u,p0,r0,p1,r1⟩ := (FX W hSw).out; go_simp; try (exact wrap_b8 _); try (with_reducible rfl))
   try simp only [Act.put,sl2,sl0,sl1]
   refine zt 11 (.slice bq1 bm1 bd1) rfl ?_ ?_
   ·(intro W hSw; obtain ⟨y,u,p0,r0,p1,r1⟩ := (FX W hSw).out; go_simp; try (exact wrap_b8 _); try (with_reducible rfl))
   try simp only [Act.put,sl2,sl0,sl1]
   refine zr 12 rfl (fun K hK => ?_)
   go_simp
   go_at_call 92
   (with_reducible refine (KKB _ (HB.out.trans (hS.mono HB.out.size))).out.mono ?_)
   rintro e WB ⟨rfl,hb⟩
   replace hS := hS.trans (hb.mono hS.size)
   clear hb
   refine hK.out _ _ hS (fun _ => ?_)
   clear hK K
   try simp only [Act.put,sl2,sl0,sl1]
   refine zt 13 (.bool bB) rfl ?_ ?_
   ·(intro W hSw; obtain ⟨y,u,p0,r0,p1,r1⟩ := (FX W hSw).out; go_simp; try (exact wrap_b8 _); try (with_reducible rfl))
   try simp only [Act.put,sl2,sl0,sl1]
   refine wpAnyH_done (by kernel_rfl) ?_ _
   cases ok <;> cases bA <;> cases bB
   all_goals
    have HBn := hid (HB.out.trans (hS.mono HB.out.size))
    have HXn := hid (HX.out.below hS HX.out.lt)
    have HYn := hid (HY.out.below hS HY.out.lt)
    clear hS FX
    go_wp2
    go_roundw
    case rel => exact ⟨i + 1,_,hlt,by go_num,rfl,hid (by rw [HSN.out,← Bool.and_assoc,← HK.out]; rfl),HBn,HXn,HYn⟩
    case measure => simp [intOf]; omega
 have hie : atn = i := by omega
 subst hie
 have HB1 := HB
 have HX1 := HX
 have HY1 := HY
 obtain ⟨ok0,hok0⟩ : ∃ b,b = ok := ⟨_,rfl⟩
 have HK1 := hid (show ok0 = (true && (List.range atn).all Qt) by rw [hok0]; exact HK.out)
 subst hok0
 clear HB HX HY HK hlt hi
 have y1 := HX1.out.at (k := 1) (v := .slice aimp aimn aimc) rfl
 have naim62 := Naim62.out
 go_wp2
 go_loopw [5,9] (fun vo vi wr => ∃ (i : Nat) (ok : Bool),i ≤ aimn ∧ vi = .int .i64 i ∧ vo = .bool ok ∧ Hid (ok = (ok0 && (List.range i).all Qim)) ∧ Hid (Below w.heap.size w wr) ∧ Hid (CA w.heap.size #[.slice atp atn atc,.slice aimp aimn aimc,.slice afp afn afc,.slice atbp atbn atbc,.slice amp amn amc,.slice agp agn agc,.slice axp axn axc,.int .i64 ast,.slice aep aen aec,.slice adp adn adc,.bool acnt] 32 wr) ∧ Hid (CA (w.heap.size + 1) #[.slice btp atn btc,.slice bimp aimn bimc,.slice bfp afn bfc,.slice btbp atbn btbc,.slice bmp amn bmc,.slice bgp agn bgc,.slice bxp axn bxc,.int .i64 ast,.slice bep aen bec,.slice bdp adn bdc,.bool acnt] 32 wr)) (fun _ vi _ => aimn - (intOf vi).toNat)
 case atStart => exact ⟨0,ok0,Nat.zero_le _,rfl,rfl,by simp [Hid],HB1,HX1,HY1⟩
 clear y1
 obtain ⟨i,ok,hi,rfl,rfl,HK,HB,HX,HY⟩ := hrel
 have y1 := HX.out.at (k := 1) (v := .slice aimp aimn aimc) rfl
 by_cases hlt : i < aimn
 ·as_aux_lemma =>
   obtain ⟨z0,z1,z2,z3,z4,z5,z6,z7,z8,z9,z10,z11,z12⟩ := HaimX.out i hlt
   obtain ⟨v0,v1,v2,v3,v4,v5,v6,v7,v8,v9,v10,v11,v12⟩ := HbimX.out i hlt
   obtain ⟨hpa,hga⟩ := HaimG.out (by omega)
   obtain ⟨hpb,hgb⟩ := HbimG.out (by omega)
   subst hpa hpb
   have x0 := (HB.out.cell (p := ⟨aimblk,aimoff + i * 13,none⟩) hga).trans z0
   have w0 := (HB.out.cell (p := ⟨bimblk,bimoff + i * 13,none⟩) hgb).trans v0
   have x1 := (HB.out.cell (p := ⟨aimblk,aimoff + i * 13 + 1,none⟩) hga).trans z1
   have w1 := (HB.out.cell (p := ⟨bimblk,bimoff + i * 13 + 1,none⟩) hgb).trans v1
   have x2 := (HB.out.cell (p := ⟨aimblk,aimoff + i * 13 + 2,none⟩) hga).trans z2
   have w2 := (HB.out.cell (p := ⟨bimblk,bimoff + i * 13 + 2,none⟩) hgb).trans v2
   have x3 := (HB.out.cell (p := ⟨aimblk,aimoff + i * 13 + 3,none⟩) hga).trans z3
   have w3 := (HB.out.cell (p := ⟨bimblk,bimoff + i * 13 + 3,none⟩) hgb).trans v3
   have x4 := (HB.out.cell (p := ⟨aimblk,aimoff + i * 13 + 4,none⟩) hga).trans z4
   have w4 := (HB.out.cell (p := ⟨bimblk,bimoff + i * 13 + 4,none⟩) hgb).trans v4
   have x5 := (HB.out.cell (p := ⟨aimblk,aimoff + i * 13 + 5,none⟩) hga).trans z5
   have w5 := (HB.out.cell (p := ⟨bimblk,bimoff + i * 13 + 5,none⟩) hgb).trans v5
   have x6 := (HB.out.cell (p := ⟨aimblk,aimoff + i * 13 + 6,none⟩) hga).trans z6
   have w6 := (HB.out.cell (p := ⟨bimblk,bimoff + i * 13 + 6,none⟩) hgb).trans v6
   have x7 := (HB.out.cell (p := ⟨aimblk,aimoff + i * 13 + 7,none⟩) hga).trans z7
   have w7 := (HB.out.cell (p := ⟨bimblk,bimoff + i * 13 + 7,none⟩) hgb).trans v7
   have x8 := (HB.out.cell (p := ⟨aimblk,aimoff + i * 13 + 8,none⟩) hga).trans z8
   have w8 := (HB.out.cell (p := ⟨bimblk,bimoff + i * 13 + 8,none⟩) hgb).trans v8
   have x9 := (HB.out.cell (p := ⟨aimblk,aimoff + i * 13 + 9,none⟩) hga).trans z9
   have w9 := (HB.out.cell (p := ⟨bimblk,bimoff + i * 13 + 9,none⟩) hgb).trans v9
   have x10 := (HB.out.cell (p := ⟨aimblk,aimoff + i * 13 + 10,none⟩) hga).trans z10
   have w10 := (HB.out.cell (p := ⟨bimblk,bimoff + i * 13 + 10,none⟩) hgb).trans v10
   have x11 := (HB.out.cell (p := ⟨aimblk,aimoff + i * 13 + 11,none⟩) hga).trans z11
   have w11 := (HB.out.cell (p := ⟨bimblk,bimoff + i * 13 + 11,none⟩) hgb).trans v11
   have x12 := (HB.out.cell (p := ⟨aimblk,aimoff + i * 13 + 12,none⟩) hga).trans z12
   have w12 := (HB.out.cell (p := ⟨bimblk,bimoff + i * 13 + 12,none⟩) hgb).trans v12
   have hga2 := Nat.lt_of_lt_of_le hga HB.out.size
   have hgb2 := Nat.lt_of_lt_of_le hgb HB.out.size
   clear z0 v0 z1 v1 z2 v2 z3 v3 z4 v4 z5 v5 z6 v6 z7 v7 z8 v8 z9 v9 z10 v10 z11 v11 z12 v12 hga hgb
   have HSN := hid (show (List.range (i + 1)).all Qim = ((List.range i).all Qim && (((aimz0 i == bimz0 i) && (aimz1 i == bimz1 i) && (aimt2 i == bimt2 i) && (aimt3 i == bimt3 i) && (aimt4 i == bimt4 i) && (aimt5 i == bimt5 i) && (aimt6 i == bimt6 i) && (aimu7 i == bimu7 i) && (aimt8 i == bimt8 i) && (aimt9 i == bimt9 i) && (aimu10 i == bimu10 i) && (aimt11 i == bimt11 i) && (aimu12 i == bimu12 i)))) by rw [range_all_snoc]; rw [HQim.out])
   generalize aimz0 i = ay0 at *
   generalize aimz1 i = ay1 at *
   generalize aimt2 i = as2 at *
   generalize aimt3 i = as3 at *
   generalize aimt4 i = as4 at *
   generalize aimt5 i = as5 at *
   generalize aimt6 i = as6 at *
   generalize aimu7 i = ae7 at *
   generalize aimt8 i = as8 at *
   generalize aimt9 i = as9 at *
   generalize aimu10 i = ae10 at *
   generalize aimt11 i = as11 at *
   generalize aimu12 i = ae12 at *
   generalize bimz0 i = by0 at *
   generalize bimz1 i = by1 at *
   generalize bimt2 i = bs2 at *
   generalize bimt3 i = bs3 at *
   generalize bimt4 i = bs4 at *
   generalize bimt5 i = bs5 at *
   generalize bimt6 i = bs6 at *
   generalize bimu7 i = be7 at *
   generalize bimt8 i = bs8 at *
   generalize bimt9 i = bs9 at *
   generalize bimu10 i = be10 at *
   generalize bimt11 i = bs11 at *
   generalize bimu12 i = be12 at *
   have FX := fun W (h : Below wr.heap.size wr W) => hid (And.intro ((HX.out.below h HX.out.lt).at (k := 1) (v := .slice (some ⟨aimblk,aimoff,none⟩) aimn aimc) rfl) (And.intro ((HY.out.below h HY.out.lt).at (k := 1) (v := .slice (some ⟨bimblk,bimoff,none⟩) aimn bimc) rfl) (And.intro ((h.cell (p := ⟨aimblk,aimoff + i * 13,none⟩) hga2).trans x0) (And.intro ((h.cell (p := ⟨bimblk,bimoff + i * 13,none⟩) hgb2).trans w0) (And.intro ((h.cell (p := ⟨aimblk,aimoff + i * 13 + 1,none⟩) hga2).trans x1) (And.intro ((h.cell (p := ⟨bimblk,bimoff + i * 13 + 1,none⟩) hgb2).trans w1) (And.intro ((h.cell (p := ⟨aimblk,aimoff + i * 13 + 2,none⟩) hga2).trans x2) (And.intro ((h.cell (p := ⟨bimblk,bimoff + i * 13 + 2,none⟩) hgb2).trans w2) (And.intro ((h.cell (p := ⟨aimblk,aimoff + i * 13 + 3,none⟩) hga2).trans x3) (And.intro ((h.cell (p := ⟨bimblk,bimoff + i * 13 + 3,none⟩) hgb2).trans w3) (And.intro ((h.cell (p := ⟨aimblk,aimoff + i * 13 + 4,none⟩) hga2).trans x4) (And.intro ((h.cell (p := ⟨bimblk,bimoff + i * 13 + 4,none⟩) hgb2).trans w4) (And.intro ((h.cell (p := ⟨aimblk,aimoff + i * 13 + 5,none⟩) hga2).trans x5) (And.intro ((h.cell (p := ⟨bimblk,bimoff + i * 13 + 5,none⟩) hgb2).trans w5) (And.intro ((h.cell (p := ⟨aimblk,aimoff + i * 13 + 6,none⟩) hga2).trans x6) (And.intro ((h.cell (p := ⟨bimblk,bimoff + i * 13 + 6,none⟩) hgb2).trans w6) (And.intro ((h.cell (p := ⟨aimblk,aimoff + i * 13 + 7,none⟩) hga2).trans x7) (And.intro ((h.cell (p := ⟨bimblk,bimoff + i * 13 + 7,none⟩) hgb2).trans w7) (And.intro ((h.cell (p := ⟨aimblk,aimoff + i * 13 + 8,none⟩) hga2).trans x8) (And.intro ((h.cell (p := ⟨bimblk,bimoff + i * 13 + 8,none⟩) hgb2).trans w8) (And.intro ((h.cell (p := ⟨aimblk,aimoff + i * 13 + 9,none⟩) hga2).trans x9) (And.intro ((h.cell (p := ⟨bimblk,bimoff + i * 13 + 9,none⟩) hgb2).trans w9) (And.intro ((h.cell (p := ⟨aimblk,aimoff + i * 13 + 10,none⟩) hga2).trans x10) (And.intro ((h.cell (p := ⟨bimblk,bimoff + i * 13 + 10,none⟩) hgb2).trans w10) (And.intro ((h.cell (p := ⟨aimblk,aimoff + i * 13 + 11,none⟩) hga2).trans x11) (And.intro ((h.cell (p := ⟨bimblk,bimoff + i * 13 + 11,none⟩) hgb2).trans w11) (And.intro ((h.cell (p := ⟨aimblk,aimoff + i * 13 + 12,none⟩) hga2).trans x12) ((h.cell (p := ⟨bimblk,bimoff + i * 13 + 12,none⟩) hgb2).trans w12))))))))))))))))))))))))))))
   clear x0 w0 x1 w1 x2 w2 x3 w3 x4 w4 x5 w5 x6 w6 x7 w7 x8 w8 x9 w9 x10 w10 x11 w11 x12 w12 hga2 hgb2
   have hq := fun W => eql_imp ay0 ay1 as2 as3 as4 as5 as6 ae7 as8 as9 ae10 as11 ae12 by0 by1 bs2 bs3 bs4 bs5 bs6 be7 bs8 bs9 be10 bs11 be12 W
   obtain ⟨q,hq2⟩ : ∃ q,q = ((ay0 == by0) && (ay1 == by1) && (as2 == bs2) && (as3 == bs3) && (as4 == bs4) && (as5 == bs5) && (as6 == bs6) && (ae7 == be7) && (as8 == bs8) && (as9 == bs9) && (ae10 == be10) && (as11 == bs11) && (ae12 == be12)) := ⟨_,rfl⟩
   rw [← hq2] at HSN hq
   clear hq2
   cases ok with
   | true =>
    go_upto_region 13 with fail
    clear y1
    have hS : Below wr.heap.size wr wr.drew := (Below.refl _ _).drew
    refine wp_region_held_drew (S := fun W => Below wr.heap.size wr W) (by kernel_rfl) hS (fun _ => ?_)
    generalize wr.drew = W at *
    refine zt 0 (.bool true) rfl ?_ ?_
    ·(intro W hSw; obtain ⟨y,u,p0,r0,p1,r1,p2,r2,p3,r3,p4,r4,p5,r5,p6,r6,p7,r7,p8,r8,p9,r9,p10,r10,p11,r11,p12,r12⟩ := (FX W hSw).out; go_simp; try (exact wrap_b8 _); try (with_reducible rfl))
    try simp only [Act.put,sl2,sl0,sl1]
    refine zt 1 (.bool true) rfl ?_ ?_
    ·(intro W hSw; obtain ⟨y,u,p0,r0,p1,r1,p2,r2,p3,r3,p4,r4,p5,r5,p6,r6,p7,r7,p8,r8,p9,r9,p10,r10,p11,r11,p12,r12⟩ := (FX W hSw).out; go_simp; try (exact wrap_b8 _); try (with_reducible rfl))
    try simp only [Act.put,sl2,sl0,sl1]
    refine zt 2 (.pointer (some ⟨w.heap.size,1,none⟩)) rfl ?_ ?_
    ·(intro W hSw; obtain ⟨y,u,p0,r0,p1,r1,p2,r2,p3,r3,p4,r4,p5,r5,p6,r6,p7,r7,p8,r8,p9,r9,p10,r10,p11,r11,p12,r12⟩ := (FX W hSw).out; go_simp; try (exact wrap_b8 _); try (with_reducible rfl))
    try simp only [Act.put,sl2,sl0,sl1]
    refine zt 3 (.slice (some ⟨aimblk,aimoff,none⟩) aimn aimc) rfl ?_ ?_
    ·(intro W hSw; obtain ⟨y,u,p0,r0,p1,r1,p2,r2,p3,r3,p4,r4,p5,r5,p6,r6,p7,r7,p8,r8,p9,r9,p10,r10,p11,r11,p12,r12⟩ := (FX W hSw).out; go_simp; try (exact wrap_b8 _); try (with_reducible rfl))
    try simp only [Act.put,sl2,sl0,sl1]
    refine zt 4 (.int .i64 i) rfl ?_ ?_
    ·(intro W hSw; obtain ⟨y,u,p0,r0,p1,r1,p2,r2,p3,r3,p4,r4,p5,r5,p6,r6,p7,r7,p8,r8,p9,r9,p10,r10,p11,r11,p12,r12⟩ := (FX W hSw).out; go_simp; try (exact wrap_b8 _); try (with_reducible rfl))
    try simp only [Act.put,sl2,sl0,sl1]
    refine zt 5 (.pointer (some ⟨aimblk,aimoff + i * 13,none⟩)) rfl ?_ ?_
    ·(intro W hSw; obtain ⟨y,u,p0,r0,p1,r1,p2,r2,p3,r3,p4,r4,p5,r5,p6,r6,p7,r7,p8,r8,p9,r9,p10,r10,p11,r11,p12,r12⟩ := (FX W hSw).out; go_simp; try (exact wrap_b8 _); try (with_reducible rfl))
    try simp only [Act.put,sl2,sl0,sl1]
    refine zt 6 (.agg #[.string ay0,.string ay1,.int .i64 as2,.int .i64 as3,.int .i64 as4,.int .i64 as5,.int .i64 as6,.bool ae7,.int .i64 as8,.int .i64 as9,.bool ae10,.int .i64 as11,.bool ae12]) rfl ?_ ?_
    ·(intro W hSw; obtain ⟨y,u,p0,r0,p1,r1,p2,r2,p3,r3,p4,r4,p5,r5,p6,r6,p7,r7,p8,r8,p9,r9,p10,r10,p11,r11,p12,r12⟩ := (FX W hSw).out; go_simp; try (exact wrap_b8 _); try (with_reducible rfl))
    try simp only [Act.put,sl2,sl0,sl1]
    refine zt 7 (.pointer (some ⟨w.heap.size + 1,1,none⟩)) rfl ?_ ?_
    ·(intro W hSw; obtain ⟨y,u,p0,r0,p1,r1,p2,r2,p3,r3,p4,r4,p5,r5,p6,r6,p7,r7,p8,r8,p9,r9,p10,r10,p11,r11,p12,r12⟩ := (FX W hSw).out; go_simp; try (exact wrap_b8 _); try (with_reducible rfl))
    try simp only [Act.put,sl2,sl0,sl1]
    refine zt 8 (.slice (some ⟨bimblk,bimoff,none⟩) aimn bimc) rfl ?_ ?_
    ·(intro W hSw; obtain ⟨y,u,p0,r0,p1,r1,p2,r2,p3,r3,p4,r4,p5,r5,p6,r6,p7,r7,p8,r8,p9,r9,p10,r10,p11,r11,p12,r12⟩ := (FX W hSw).out; go_simp; try (exact wrap_b8 _); try (with_reducible rfl))
    try simp only [Act.put,sl2,sl0,sl1]
    refine zt 9 (.int .i64 i) rfl ?_ ?_
    ·(intro W hSw; obtain ⟨y,u,p0,r0,p1,r1,p2,r2,p3,r3,p4,r4,p5,r5,p6,r6,p7,r7,p8,r8,p9,r9,p10,r10,p11,r11,p12,r12⟩ := (FX W hSw).out; go_simp; try (exact wrap_b8 _); try (with_reducible rfl))
    try simp only [Act.put,sl2,sl0,sl1]
    refine zt 10 (.pointer (some ⟨bimblk,bimoff + i * 13,none⟩)) rfl ?_ ?_
    ·(intro W hSw; obtain ⟨y,u,p0,r0,p1,r1,p2,r2,p3,r3,p4,r4,p5,r5,p6,r6,p7,r7,p8,r8,p9,r9,p10,r10,p11,r11,p12,r12⟩ := (FX W hSw).out; go_simp; try (exact wrap_b8 _); try (with_reducible rfl))
    try simp only [Act.put,sl2,sl0,sl1]
    refine zt 11 (.agg #[.string by0,.string by1,.int .i64 bs2,.int .i64 bs3,.int .i64 bs4,.int .i64 bs5,.int .i64 bs6,.bool be7,.int .i64 bs8,.int .i64 bs9,.bool be10,.int .i64 bs11,.bool be12]) rfl ?_ ?_
    ·(intro W hSw; obtain ⟨y,u,p0,r0,p1,r1,p2,r2,p3,r3,p4,r4,p5,r5,p6,r6,p7,r7,p8,r8,p9,r9,p10,r10,p11,r11,p12,r12⟩ := (FX W hSw).out; go_simp; try (exact wrap_b8 _); try (with_reducible rfl))
    try simp only [Act.put,sl2,sl0,sl1]
    refine zt 12 (.bool q) rfl ?_ ?_
    ·(intro W hSw; obtain ⟨y,u,p0,r0,p1,r1,p2,r2,p3,r3,p4,r4,p5,r5,p6,r6,p7,r7,p8,r8,p9,r9,p10,r10,p11,r11,p12,r12⟩ := (FX W hSw).out; go_simp; try (exact wrap_b8 _); try (with_reducible rfl))
    try simp only [Act.put,sl2,sl0,sl1]
    refine zt 13 (.bool q) rfl ?_ ?_
    ·(intro W hSw; obtain ⟨y,u,p0,r0,p1,r1,p2,r2,p3,r3,p4,r4,p5,r5,p6,r6,p7,r7,p8,r8,p9,r9,p10,r10,p11,r11,p12,r12⟩ := (FX W hSw).out; go_simp; try (exact wrap_b8 _); try (with_reducible rfl))
    try simp only [Act.put,sl2,sl0,sl1]
    refine zt 14 (.bool q) rfl ?_ ?_
    ·(intro W hSw; obtain ⟨y,u,p0,r0,p1,r1,p2,r2,p3,r3,p4,r4,p5,r5,p6,r6,p7,r7,p8,r8,p9,r9,p10,r10,p11,r11,p12,r12⟩ := (FX W hSw).out; go_simp; try (exact wrap_b8 _); try (with_reducible rfl))
    try simp only [Act.put,sl2,sl0,sl1]
    refine wpAnyH_done (by kernel_rfl) ?_ _
    have HBn := hid (HB.out.trans (hS.mono HB.out.size))
    have HXn := hid (HX.out.below hS HX.out.lt)
    have HYn := hid (HY.out.below hS HY.out.lt)
    clear hS FX
    go_wp2
    go_roundw
    case rel => exact ⟨i + 1,_,hlt,by go_num,rfl,hid (by rw [HSN.out,← Bool.and_assoc,← HK.out]; rfl),HBn,HXn,HYn⟩
    case measure => simp [intOf]; omega
   | false =>
    go_upto_region 13 with fail
    clear y1
    have hS : Below wr.heap.size wr wr.drew := (Below.refl _ _).drew
    refine wp_region_held_drew (S := fun W => Below wr.heap.size wr W) (by kernel_rfl) hS (fun _ => ?_)
    generalize wr.drew = W at *
    refine zt 0 (.bool false) rfl ?_ ?_
    ·(intro W hSw; skip; go_simp; try (exact wrap_b8 _); try (with_reducible rfl))
    try simp only [Act.put,sl2,sl0,sl1]
    refine zt 1 (.bool false) rfl ?_ ?_
    ·(intro W hSw; skip; go_simp; try (exact wrap_b8 _); try (with_reducible rfl))
    try simp only [Act.put,sl2,sl0,sl1]
    refine zu 2 rfl ?_
    try simp only [Act.put,sl2,sl0,sl1]
    refine zu 3 rfl ?_
    try simp only [Act.put,sl2,sl0,sl1]
    refine zu 4 rfl ?_
    try simp only [Act.put,sl2,sl0,sl1]
    refine zu 5 rfl ?_
    try simp only [Act.put,sl2,sl0,sl1]
    refine zu 6 rfl ?_
    try simp only [Act.put,sl2,sl0,sl1]
    refine zu 7 rfl ?_
    try simp only [Act.put,sl2,sl0,sl1]
    refine zu 8 rfl ?_
    try simp only [Act.put,sl2,sl0,sl1]
    refine zu 9 rfl ?_
    try simp only [Act.put,sl2,sl0,sl1]
    refine zu 10 rfl ?_
    try simp only [Act.put,sl2,sl0,sl1]
    refine zu 11 rfl ?_
    try simp only [Act.put,sl2,sl0,sl1]
    refine zu 12 rfl ?_
    try simp only [Act.put,sl2,sl0,sl1]
    refine zt 13 (.bool false) rfl ?_ ?_
    ·(intro W hSw; skip; go_simp; try (exact wrap_b8 _); try (with_reducible rfl))
    try simp only [Act.put,sl2,sl0,sl1]
    refine zt 14 (.bool false) rfl ?_ ?_
    ·(intro W hSw; skip; go_simp; try (exact wrap_b8 _); try (with_reducible rfl))
    try simp only [Act.put,sl2,sl0,sl1]
    refine wpAnyH_done (by kernel_rfl) ?_ _
    have HBn := hid (HB.out.trans (hS.mono HB.out.size))
    have HXn := hid (HX.out.below hS HX.out.lt)
    have HYn := hid (HY.out.below hS HY.out.lt)
    clear hS FX
    go_wp2
    go_roundw
    case rel => exact ⟨i + 1,_,hlt,by go_num,rfl,hid (by rw [HSN.out,← Bool.and_assoc,← HK.out]; rfl),HBn,HXn,HYn⟩
    case measure => simp [intOf]; omega
 have hie : aimn = i := by omega
 subst hie
 have HB2 := HB
 have HX2 := HX
 have HY2 := HY
 obtain ⟨ok1,hok1⟩ : ∃ b,b = ok := ⟨_,rfl⟩
 have HK2 := hid (show ok1 = (ok0 && (List.range aimn).all Qim) by rw [hok1]; exact HK.out)
 subst hok1
 clear HB HX HY HK hlt hi
 have y2 := HX2.out.at (k := 2) (v := .slice afp afn afc) rfl
 have naf62 := Naf62.out
 go_wp2
 go_loopw [5,10] (fun vo vi wr => ∃ (i : Nat) (ok : Bool),i ≤ afn ∧ vi = .int .i64 i ∧ vo = .bool ok ∧ Hid (ok = (ok1 && (List.range i).all Qf)) ∧ Hid (Below w.heap.size w wr) ∧ Hid (CA w.heap.size #[.slice atp atn atc,.slice aimp aimn aimc,.slice afp afn afc,.slice atbp atbn atbc,.slice amp amn amc,.slice agp agn agc,.slice axp axn axc,.int .i64 ast,.slice aep aen aec,.slice adp adn adc,.bool acnt] 32 wr) ∧ Hid (CA (w.heap.size + 1) #[.slice btp atn btc,.slice bimp aimn bimc,.slice bfp afn bfc,.slice btbp atbn btbc,.slice bmp amn bmc,.slice bgp agn bgc,.slice bxp axn bxc,.int .i64 ast,.slice bep aen bec,.slice bdp adn bdc,.bool acnt] 32 wr)) (fun _ vi _ => afn - (intOf vi).toNat)
 case atStart => exact ⟨0,ok1,Nat.zero_le _,rfl,rfl,by simp [Hid],HB2,HX2,HY2⟩
 clear y2
 obtain ⟨i,ok,hi,rfl,rfl,HK,HB,HX,HY⟩ := hrel
 have y2 := HX.out.at (k := 2) (v := .slice afp afn afc) rfl
 by_cases hlt : i < afn
 ·as_aux_lemma =>
   obtain ⟨z0,z1,z2⟩ := HafX.out i hlt
   obtain ⟨v0,v1,v2⟩ := HbfX.out i hlt
   obtain ⟨hpa,hga⟩ := HafG.out (by omega)
   obtain ⟨hpb,hgb⟩ := HbfG.out (by omega)
   subst hpa hpb
   have x0 := (HB.out.cell (p := ⟨afblk,afoff + i * 3,none⟩) hga).trans z0
   have w0 := (HB.out.cell (p := ⟨bfblk,bfoff + i * 3,none⟩) hgb).trans v0
   have x1 := (HB.out.cell (p := ⟨afblk,afoff + i * 3 + 1,none⟩) hga).trans z1
   have w1 := (HB.out.cell (p := ⟨bfblk,bfoff + i * 3 + 1,none⟩) hgb).trans v1
   have x2 := (HB.out.cell (p := ⟨afblk,afoff + i * 3 + 2,none⟩) hga).trans z2
   have w2 := (HB.out.cell (p := ⟨bfblk,bfoff + i * 3 + 2,none⟩) hgb).trans v2
   have hga2 := Nat.lt_of_lt_of_le hga HB.out.size
   have hgb2 := Nat.lt_of_lt_of_le hgb HB.out.size
   clear z0 v0 z1 v1 z2 v2 hga hgb
   have KKA := fun W h => hid (HfA.out i hlt hlt W h)
   have KKB := fun W h => hid (HfB.out i hlt hlt W h)
   have HSN := hid (show (List.range (i + 1)).all Qf = ((List.range i).all Qf && (fA i && fB i && (aft0 i == bft0 i))) by rw [range_all_snoc]; rw [HQf.out])
   generalize fA i = bA at *
   generalize fB i = bB at *
   generalize aft0 i = as0 at *
   generalize afp1 i = aq1 at *
   generalize afn1 i = am1 at *
   generalize afc1 i = ad1 at *
   generalize afp2 i = aq2 at *
   generalize afn2 i = am2 at *
   generalize afc2 i = ad2 at *
   generalize bft0 i = bs0 at *
   generalize bfp1 i = bq1 at *
   generalize bfn1 i = bm1 at *
   generalize bfc1 i = bd1 at *
   generalize bfp2 i = bq2 at *
   generalize bfn2 i = bm2 at *
   generalize bfc2 i = bd2 at *
   have FX := fun W (h : Below wr.heap.size wr W) => hid (And.intro ((HX.out.below h HX.out.lt).at (k := 2) (v := .slice (some ⟨afblk,afoff,none⟩) afn afc) rfl) (And.intro ((HY.out.below h HY.out.lt).at (k := 2) (v := .slice (some ⟨bfblk,bfoff,none⟩) afn bfc) rfl) (And.intro ((h.cell (p := ⟨afblk,afoff + i * 3,none⟩) hga2).trans x0) (And.intro ((h.cell (p := ⟨bfblk,bfoff + i * 3,none⟩) hgb2).trans w0) (And.intro ((h.cell (p := ⟨afblk,afoff + i * 3 + 1,none⟩) hga2).trans x1) (And.intro ((h.cell (p := ⟨bfblk,bfoff + i * 3 + 1,none⟩) hgb2).trans w1) (And.intro ((h.cell (p := ⟨afblk,afoff + i * 3 + 2,none⟩) hga2).trans x2) ((h.cell (p := ⟨bfblk,bfoff + i * 3 + 2,none⟩) hgb2).trans w2))))))))
   clear x0 w0 x1 w1 x2 w2 hga2 hgb2
   go_upto_region 17 with fail
   clear y2
   have hS : Below wr.heap.size wr wr.drew := (Below.refl _ _).drew
   refine wp_region_held_drew (S := fun W => Below wr.heap.size wr W) (by kernel_rfl) hS (fun _ => ?_)
   generalize wr.drew = W at *
   refine zt 0 (.pointer (some ⟨w.heap.size,2,none⟩)) rfl ?_ ?_
   ·(intro W hSw; obtain ⟨y,u,p0,r0,p1,r1,p2,r2⟩ := (FX W hSw).out; go_simp; try (exact wrap_b8 _); try (with_reducible rfl))
   try simp only [Act.put,sl2,sl0,sl1]
   refine zt 1 (.slice (some ⟨afblk,afoff,none⟩) afn afc) rfl ?_ ?_
   ·(intro W hSw; obtain ⟨y,u,p0,r0,p1,r1,p2,r2⟩ := (FX W hSw).out; go_simp; try (exact wrap_b8 _); try (with_reducible rfl))
   try simp only [Act.put,sl2,sl0,sl1]
   refine zt 2 (.int .i64 i) rfl ?_ ?_
   ·(intro W hSw; obtain ⟨y,u,p0,r0,p1,r1,p2,r2⟩ := (FX W hSw).out; go_simp; try (exact wrap_b8 _); try (with_reducible rfl))
   try simp only [Act.put,sl2,sl0,sl1]
   refine zt 3 (.pointer (some ⟨afblk,afoff + i * 3,none⟩)) rfl ?_ ?_
   ·(intro W hSw; obtain ⟨y,u,p0,r0,p1,r1,p2,r2⟩ := (FX W hSw).out; go_simp; try (exact wrap_b8 _); try (with_reducible rfl))
   try simp only [Act.put,sl2,sl0,sl1]
   refine zt 4 (.pointer (some ⟨afblk,afoff + i * 3 + 1,none⟩)) rfl ?_ ?_
   ·(intro W hSw; obtain ⟨y,u,p0,r0,p1,r1,p2,r2⟩ := (FX W hSw).out; go_simp; try (exact wrap_b8 _); try (with_reducible rfl))
   try simp only [Act.put,sl2,sl0,sl1]
   refine zt 5 (.slice aq1 am1 ad1) rfl ?_ ?_
   ·(intro W hSw; obtain ⟨y,u,p0,r0,p1,r1,p2,r2⟩ := (FX W hSw).out; go_simp; try (exact wrap_b8 _); try (with_reducible rfl))
   try simp only [Act.put,sl2,sl0,sl1]
   refine zt 6 (.pointer (some ⟨w.heap.size + 1,2,none⟩)) rfl ?_ ?_
   ·(intro W hSw; obtain ⟨y,u,p0,r0,p1,r1,p2,r2⟩ := (FX W hSw).out; go_simp; try (exact wrap_b8 _); try (with_reducible rfl))
   try simp only [Act.put,sl2,sl0,sl1]
   refine zt 7 (.slice (some ⟨bfblk,bfoff,none⟩) afn bfc) rfl ?_ ?_
   ·(intro W hSw; obtain ⟨y,u,p0,r0,p1,r1,p2,r2⟩ := (FX W hSw).out; go_simp; try (exact wrap_b8 _); try (with_reducible rfl))
   try simp only [Act.put,sl2,sl0,sl1]
   refine zt 8 (.int .i64 i) rfl ?_ ?_
   ·(intro W hSw; obtain ⟨y,u,p0,r0,p1,r1,p2,r2⟩ := (FX W hSw).out; go_simp; try (exact wrap_b8 _); try (with_reducible rfl))
   try simp only [Act.put,sl2,sl0,sl1]
   refine zt 9 (.pointer (some ⟨bfblk,bfoff + i * 3,none⟩)) rfl ?_ ?_
   ·(intro W hSw; obtain ⟨y,u,p0,r0,p1,r1,p2,r2⟩ := (FX W hSw).out; go_simp; try (exact wrap_b8 _); try (with_reducible rfl))
   try simp only [Act.put,sl2,sl0,sl1]
   refine zt 10 (.pointer (some ⟨bfblk,bfoff + i * 3 + 1,none⟩)) rfl ?_ ?_
   ·(intro W hSw; obtain ⟨y,u,p0,r0,p1,r1,p2,r2⟩ := (FX W hSw).out; go_simp; try (exact wrap_b8 _); try (with_reducible rfl))
   try simp only [Act.put,sl2,sl0,sl1]
   refine zt 11 (.slice bq1 bm1 bd1) rfl ?_ ?_
   ·(intro W hSw; obtain ⟨y,u,p0,r0,p1,r1,p2,r2⟩ := (FX W hSw).out; go_simp; try (exact wrap_b8 _); try (with_reducible rfl))
   try simp only [Act.put,sl2,sl0,sl1]
   refine zr 12 rfl (fun K hK => ?_)
   go_simp
   go_at_call 92
   (with_reducible refine (KKA _ (HB.out.trans (hS.mono HB.out.size))).out.mono ?_)
   rintro e WA ⟨rfl,hb⟩
   replace hS := hS.trans (hb.mono hS.size)
   clear hb
   refine hK.out _ _ hS (fun _ => ?_)
   clear hK K
   try simp only [Act.put,sl2,sl0,sl1]
   refine zt 13 (.bool bA) rfl ?_ ?_
   ·(intro W hSw; obtain ⟨y,u,p0,r0,p1,r1,p2,r2⟩ := (FX W hSw).out; go_simp; try (exact wrap_b8 _); try (with_reducible rfl))
   try simp only [Act.put,sl2,sl0,sl1]
   refine wpAnyH_done (by kernel_rfl) ?_ _
   go_upto_region 18 with fail
   replace hS := hS.drew
   refine wp_region_held_drew (S := fun W => Below wr.heap.size wr W) (by kernel_rfl) hS (fun _ => ?_)
   generalize WA.drew = W at *
   refine zt 0 (.pointer (some ⟨w.heap.size,2,none⟩)) rfl ?_ ?_
   ·(intro W hSw; obtain ⟨y,u,p0,r0,p1,r1,p2,r2⟩ := (FX W hSw).out; go_simp; try (exact wrap_b8 _); try (with_reducible rfl))
   try simp only [Act.put,sl2,sl0,sl1]
   refine zt 1 (.slice (some ⟨afblk,afoff,none⟩) afn afc) rfl ?_ ?_
   ·(intro W hSw; obtain ⟨y,u,p0,r0,p1,r1,p2,r2⟩ := (FX W hSw).out; go_simp; try (exact wrap_b8 _); try (with_reducible rfl))
   try simp only [Act.put,sl2,sl0,sl1]
   refine zt 2 (.int .i64 i) rfl ?_ ?_
   ·(intro W hSw; obtain ⟨y,u,p0,r0,p1,r1,p2,r2⟩ := (FX W hSw).out; go_simp; try (exact wrap_b8 _); try (with_reducible rfl))
   try simp only [Act.put,sl2,sl0,sl1]
   refine zt 3 (.pointer (some ⟨afblk,afoff + i * 3,none⟩)) rfl ?_ ?_
   ·(intro W hSw; obtain ⟨y,u,p0,r0,p1,r1,p2,r2⟩ := (FX W hSw).out; go_simp; try (exact wrap_b8 _); try (with_reducible rfl))
   try simp only [Act.put,sl2,sl0,sl1]
   refine zt 4 (.pointer (some ⟨afblk,afoff + i * 3 + 2,none⟩)) rfl ?_ ?_
   ·(intro W hSw; obtain ⟨y,u,p0,r0,p1,r1,p2,r2⟩ := (FX W hSw).out; go_simp; try (exact wrap_b8 _); try (with_reducible rfl))
   try simp only [Act.put,sl2,sl0,sl1]
   refine zt 5 (.slice aq2 am2 ad2) rfl ?_ ?_
   ·(intro W hSw; obtain ⟨y,u,p0,r0,p1,r1,p2,r2⟩ := (FX W hSw).out; go_simp; try (exact wrap_b8 _); try (with_reducible rfl))
   try simp only [Act.put,sl2,sl0,sl1]
   refine zt 6 (.pointer (some ⟨w.heap.size + 1,2,none⟩)) rfl ?_ ?_
   ·(intro W hSw; obtain ⟨y,u,p0,r0,p1,r1,p2,r2⟩ := (FX W hSw).out; go_simp; try (exact wrap_b8 _); try (with_reducible rfl))
   try simp only [Act.put,sl2,sl0,sl1]
   refine zt 7 (.slice (some ⟨bfblk,bfoff,none⟩) afn bfc) rfl ?_ ?_
   ·(intro W hSw; obtain ⟨y,u,p0,r0,p1,r1,p2,r2⟩ := (FX W hSw).out; go_simp; try (exact wrap_b8 _); try (with_reducible rfl))
   try simp only [Act.put,sl2,sl0,sl1]
   refine zt 8 (.int .i64 i) rfl ?_ ?_
   ·(intro W hSw; obtain ⟨y,u,p0,r0,p1,r1,p2,r2⟩ := (FX W hSw).out; go_simp; try (exact wrap_b8 _); try (with_reducible rfl))
   try simp only [Act.put,sl2,sl0,sl1]
   refine zt 9 (.pointer (some ⟨bfblk,bfoff + i * 3,none⟩)) rfl ?_ ?_
   ·(intro W hSw; obtain ⟨y,u,p0,r0,p1,r1,p2,r2⟩ := (FX W hSw).out; go_simp; try (exact wrap_b8 _); try (with_reducible rfl))
   try simp only [Act.put,sl2,sl0,sl1]
   refine zt 10 (.pointer (some ⟨bfblk,bfoff + i * 3 + 2,none⟩)) rfl ?_ ?_
   ·(intro W hSw; obtain ⟨y,u,p0,r0,p1,r1,p2,r2⟩ := (FX W hSw).out; go_simp; try (exact wrap_b8 _); try (with_reducible rfl))
   try simp only [Act.put,sl2,sl0,sl1]
   refine zt 11 (.slice bq2 bm2 bd2) rfl ?_ ?_
   ·(intro W hSw; obtain ⟨y,u,p0,r0,p1,r1,p2,r2⟩ := (FX W hSw).out; go_simp; try (exact wrap_b8 _); try (with_reducible rfl))
   try simp only [Act.put,sl2,sl0,sl1]
   refine zr 12 rfl (fun K hK => ?_)
   go_simp
   go_at_call 93
   (with_reducible refine (KKB _ (HB.out.trans (hS.mono HB.out.size))).out.mono ?_)
   rintro e WB ⟨rfl,hb⟩
   replace hS := hS.trans (hb.mono hS.size)
   clear hb
   refine hK.out _ _ hS (fun _ => ?_)
   clear hK K
   try simp only [Act.put,sl2,sl0,sl1]
   refine zt 13 (.bool bB) rfl ?_ ?_
   ·(intro W hSw; obtain ⟨y,u,p0,r0,p1,r1,p2,r2⟩ := (FX W hSw).out; go_simp; try (exact wrap_b8 _); try (with_reducible rfl))
   try simp only [Act.put,sl2,sl0,sl1]
   refine wpAnyH_done (by kernel_rfl) ?_ _
   obtain ⟨q,hq⟩ : ∃ q,(as0 == bs0) = q := ⟨_,rfl⟩
   rw [hq] at HSN
   cases ok with
   | false =>
    go_upto_region 19 with fail
    replace hS := hS.drew
    refine wp_region_held_drew (S := fun W => Below wr.heap.size wr W) (by kernel_rfl) hS (fun _ => ?_)
    generalize WB.drew = W at *
    refine zt 0 (.bool false) rfl ?_ ?_
    ·(intro W hSw; obtain ⟨y,u,p0,r0,p1,r1,p2,r2⟩ := (FX W hSw).out; go_simp; try (exact wrap_b8 _); try (with_reducible rfl))
    try simp only [Act.put,sl2,sl0,sl1]
    refine zt 1 (.bool false) rfl ?_ ?_
    ·(intro W hSw; obtain ⟨y,u,p0,r0,p1,r1,p2,r2⟩ := (FX W hSw).out; go_simp; try (exact wrap_b8 _); try (with_reducible rfl))
    try simp only [Act.put,sl2,sl0,sl1]
    refine zu 2 rfl ?_
    try simp only [Act.put,sl2,sl0,sl1]
    refine zt 3 (.bool false) rfl ?_ ?_
    ·(intro W hSw; obtain ⟨y,u,p0,r0,p1,r1,p2,r2⟩ := (FX W hSw).out; go_simp; try (exact wrap_b8 _); try (with_reducible rfl))
    try simp only [Act.put,sl2,sl0,sl1]
    refine zt 4 (.bool false) rfl ?_ ?_
    ·(intro W hSw; obtain ⟨y,u,p0,r0,p1,r1,p2,r2⟩ := (FX W hSw).out; go_simp; try (exact wrap_b8 _); try (with_reducible rfl))
    try simp only [Act.put,sl2,sl0,sl1]
    refine zu 5 rfl ?_
    try simp only [Act.put,sl2,sl0,sl1]
    refine zt 6 (.bool false) rfl ?_ ?_
    ·(intro W hSw; obtain ⟨y,u,p0,r0,p1,r1,p2,r2⟩ := (FX W hSw).out; go_simp; try (exact wrap_b8 _); try (with_reducible rfl))
    try simp only [Act.put,sl2,sl0,sl1]
    refine zt 7 (.bool false) rfl ?_ ?_
    ·(intro W hSw; obtain ⟨y,u,p0,r0,p1,r1,p2,r2⟩ := (FX W hSw).out; go_simp; try (exact wrap_b8 _); try (with_reducible rfl))
    try simp only [Act.put,sl2,sl0,sl1]
    refine zu 8 rfl ?_
    try simp only [Act.put,sl2,sl0,sl1]
    refine zu 9 rfl ?_
    try simp only [Act.put,sl2,sl0,sl1]
    refine zu 10 rfl ?_
    try simp only [Act.put,sl2,sl0,sl1]
    refine zu 11 rfl ?_
    try simp only [Act.put,sl2,sl0,sl1]
    refine zu 12 rfl ?_
    try simp only [Act.put,sl2,sl0,sl1]
    refine zu 13 rfl ?_
    try simp only [Act.put,sl2,sl0,sl1]
    refine zu 14 rfl ?_
    try simp only [Act.put,sl2,sl0,sl1]
    refine zu 15 rfl ?_
    try simp only [Act.put,sl2,sl0,sl1]
    refine zu 16 rfl ?_
    try simp only [Act.put,sl2,sl0,sl1]
    refine zu 17 rfl ?_
    try simp only [Act.put,sl2,sl0,sl1]
    refine zu 18 rfl ?_
    try simp only [Act.put,sl2,sl0,sl1]
    refine zu 19 rfl ?_
    try simp only [Act.put,sl2,sl0,sl1]
    refine zu 20 rfl ?_
    try simp only [Act.put,sl2,sl0,sl1]
    refine zt 21 (.bool false) rfl ?_ ?_
    ·(intro W hSw; obtain ⟨y,u,p0,r0,p1,r1,p2,r2⟩ := (FX W hSw).out; go_simp; try (exact wrap_b8 _); try (with_reducible rfl))
    try simp only [Act.put,sl2,sl0,sl1]
    refine zt 22 (.bool false) rfl ?_ ?_
    ·(intro W hSw; obtain ⟨y,u,p0,r0,p1,r1,p2,r2⟩ := (FX W hSw).out; go_simp; try (exact wrap_b8 _); try (with_reducible rfl))
    try simp only [Act.put,sl2,sl0,sl1]
    refine wpAnyH_done (by kernel_rfl) ?_ _
    have HBn := hid (HB.out.trans (hS.mono HB.out.size))
    have HXn := hid (HX.out.below hS HX.out.lt)
    have HYn := hid (HY.out.below hS HY.out.lt)
    clear hS FX
    go_wp2
    go_roundw
    case rel => exact ⟨i + 1,_,hlt,by go_num,rfl,hid (by rw [HSN.out,← Bool.and_assoc,← HK.out]; rfl),HBn,HXn,HYn⟩
    case measure => simp [intOf]; omega
   | true =>
    cases bA with
    | false =>
     go_upto_region 19 with fail
     replace hS := hS.drew
     refine wp_region_held_drew (S := fun W => Below wr.heap.size wr W) (by kernel_rfl) hS (fun _ => ?_)
     generalize WB.drew = W at *
     refine zt 0 (.bool true) rfl ?_ ?_
     ·(intro W hSw; obtain ⟨y,u,p0,r0,p1,r1,p2,r2⟩ := (FX W hSw).out; go_simp; try (exact wrap_b8 _); try (with_reducible rfl))
     try simp only [Act.put,sl2,sl0,sl1]
     refine zt 1 (.bool true) rfl ?_ ?_
     ·(intro W hSw; obtain ⟨y,u,p0,r0,p1,r1,p2,r2⟩ := (FX W hSw).out; go_simp; try (exact wrap_b8 _); try (with_reducible rfl))
     try simp only [Act.put,sl2,sl0,sl1]
     refine zt 2 (.bool false) rfl ?_ ?_
     ·(intro W hSw; obtain ⟨y,u,p0,r0,p1,r1,p2,r2⟩ := (FX W hSw).out; go_simp; try (exact wrap_b8 _); try (with_reducible rfl))
     try simp only [Act.put,sl2,sl0,sl1]
     refine zt 3 (.bool false) rfl ?_ ?_
     ·(intro W hSw; obtain ⟨y,u,p0,r0,p1,r1,p2,r2⟩ := (FX W hSw).out; go_simp; try (exact wrap_b8 _); try (with_reducible rfl))
     try simp only [Act.put,sl2,sl0,sl1]
     refine zt 4 (.bool false) rfl ?_ ?_
     ·(intro W hSw; obtain ⟨y,u,p0,r0,p1,r1,p2,r2⟩ := (FX W hSw).out; go_simp; try (exact wrap_b8 _); try (with_reducible rfl))
     try simp only [Act.put,sl2,sl0,sl1]
     refine zu 5 rfl ?_
     try simp only [Act.put,sl2,sl0,sl1]
     refine zt 6 (.bool false) rfl ?_ ?_
     ·(intro W hSw; obtain ⟨y,u,p0,r0,p1,r1,p2,r2⟩ := (FX W hSw).out; go_simp; try (exact wrap_b8 _); try (with_reducible rfl))
     try simp only [Act.put,sl2,sl0,sl1]
     refine zt 7 (.bool false) rfl ?_ ?_
     ·(intro W hSw; obtain ⟨y,u,p0,r0,p1,r1,p2,r2⟩ := (FX W hSw).out; go_simp; try (exact wrap_b8 _); try (with_reducible rfl))
     try simp only [Act.put,sl2,sl0,sl1]
     refine zu 8 rfl ?_
     try simp only [Act.put,sl2,sl0,sl1]
     refine zu 9 rfl ?_
     try simp only [Act.put,sl2,sl0,sl1]
     refine zu 10 rfl ?_
     try simp only [Act.put,sl2,sl0,sl1]
     refine zu 11 rfl ?_
     try simp only [Act.put,sl2,sl0,sl1]
     refine zu 12 rfl ?_
     try simp only [Act.put,sl2,sl0,sl1]
     refine zu 13 rfl ?_
     try simp only [Act.put,sl2,sl0,sl1]
     refine zu 14 rfl ?_
     try simp only [Act.put,sl2,sl0,sl1]
     refine zu 15 rfl ?_
     try simp only [Act.put,sl2,sl0,sl1]
     refine zu 16 rfl ?_
     try simp only [Act.put,sl2,sl0,sl1]
     refine zu 17 rfl ?_
     try simp only [Act.put,sl2,sl0,sl1]
     refine zu 18 rfl ?_
     try simp only [Act.put,sl2,sl0,sl1]
     refine zu 19 rfl ?_
     try simp only [Act.put,sl2,sl0,sl1]
     refine zu 20 rfl ?_
     try simp only [Act.put,sl2,sl0,sl1]
     refine zt 21 (.bool false) rfl ?_ ?_
     ·(intro W hSw; obtain ⟨y,u,p0,r0,p1,r1,p2,r2⟩ := (FX W hSw).out; go_simp; try (exact wrap_b8 _); try (with_reducible rfl))
     try simp only [Act.put,sl2,sl0,sl1]
     refine zt 22 (.bool false) rfl ?_ ?_
     ·(intro W hSw; obtain ⟨y,u,p0,r0,p1,r1,p2,r2⟩ := (FX W hSw).out; go_simp; try (exact wrap_b8 _); try (with_reducible rfl))
     try simp only [Act.put,sl2,sl0,sl1]
     refine wpAnyH_done (by kernel_rfl) ?_ _
     have HBn := hid (HB.out.trans (hS.mono HB.out.size))
     have HXn := hid (HX.out.below hS HX.out.lt)
     have HYn := hid (HY.out.below hS HY.out.lt)
     clear hS FX
     go_wp2
     go_roundw
     case rel => exact ⟨i + 1,_,hlt,by go_num,rfl,hid (by rw [HSN.out,← Bool.and_assoc,← HK.out]; rfl),HBn,HXn,HYn⟩
     case measure => simp [intOf]; omega
    | true =>
     cases bB with
     | false =>
      go_upto_region 19 with fail
      replace hS := hS.drew
      refine wp_region_held_drew (S := fun W => Below wr.heap.size wr W) (by kernel_rfl) hS (fun _ => ?_)
      generalize WB.drew = W at *
      refine zt 0 (.bool true) rfl ?_ ?_
      ·(intro W hSw; obtain ⟨y,u,p0,r0,p1,r1,p2,r2⟩ := (FX W hSw).out; go_simp; try (exact wrap_b8 _); try (with_reducible rfl))
      try simp only [Act.put,sl2,sl0,sl1]
      refine zt 1 (.bool true) rfl ?_ ?_
      ·(intro W hSw; obtain ⟨y,u,p0,r0,p1,r1,p2,r2⟩ := (FX W hSw).out; go_simp; try (exact wrap_b8 _); try (with_reducible rfl))
      try simp only [Act.put,sl2,sl0,sl1]
      refine zt 2 (.bool true) rfl ?_ ?_
      ·(intro W hSw; obtain ⟨y,u,p0,r0,p1,r1,p2,r2⟩ := (FX W hSw).out; go_simp; try (exact wrap_b8 _); try (with_reducible rfl))
      try simp only [Act.put,sl2,sl0,sl1]
      refine zt 3 (.bool true) rfl ?_ ?_
      ·(intro W hSw; obtain ⟨y,u,p0,r0,p1,r1,p2,r2⟩ := (FX W hSw).out; go_simp; try (exact wrap_b8 _); try (with_reducible rfl))
      try simp only [Act.put,sl2,sl0,sl1]
      refine zt 4 (.bool true) rfl ?_ ?_
      ·(intro W hSw; obtain ⟨y,u,p0,r0,p1,r1,p2,r2⟩ := (FX W hSw).out; go_simp; try (exact wrap_b8 _); try (with_reducible rfl))
      try simp only [Act.put,sl2,sl0,sl1]
      refine zt 5 (.bool false) rfl ?_ ?_
      ·(intro W hSw; obtain ⟨y,u,p0,r0,p1,r1,p2,r2⟩ := (FX W hSw).out; go_simp; try (exact wrap_b8 _); try (with_reducible rfl))
      try simp only [Act.put,sl2,sl0,sl1]
      refine zt 6 (.bool false) rfl ?_ ?_
      ·(intro W hSw; obtain ⟨y,u,p0,r0,p1,r1,p2,r2⟩ := (FX W hSw).out; go_simp; try (exact wrap_b8 _); try (with_reducible rfl))
      try simp only [Act.put,sl2,sl0,sl1]
      refine zt 7 (.bool false) rfl ?_ ?_
      ·(intro W hSw; obtain ⟨y,u,p0,r0,p1,r1,p2,r2⟩ := (FX W hSw).out; go_simp; try (exact wrap_b8 _); try (with_reducible rfl))
      try simp only [Act.put,sl2,sl0,sl1]
      refine zu 8 rfl ?_
      try simp only [Act.put,sl2,sl0,sl1]
      refine zu 9 rfl ?_
      try simp only [Act.put,sl2,sl0,sl1]
      refine zu 10 rfl ?_
      try simp only [Act.put,sl2,sl0,sl1]
      refine zu 11 rfl ?_
      try simp only [Act.put,sl2,sl0,sl1]
      refine zu 12 rfl ?_
      try simp only [Act.put,sl2,sl0,sl1]
      refine zu 13 rfl ?_
      try simp only [Act.put,sl2,sl0,sl1]
      refine zu 14 rfl ?_
      try simp only [Act.put,sl2,sl0,sl1]
      refine zu 15 rfl ?_
      try simp only [Act.put,sl2,sl0,sl1]
      refine zu 16 rfl ?_
      try simp only [Act.put,sl2,sl0,sl1]
      refine zu 17 rfl ?_
      try simp only [Act.put,sl2,sl0,sl1]
      refine zu 18 rfl ?_
      try simp only [Act.put,sl2,sl0,sl1]
      refine zu 19 rfl ?_
      try simp only [Act.put,sl2,sl0,sl1]
      refine zu 20 rfl ?_
      try simp only [Act.put,sl2,sl0,sl1]
      refine zt 21 (.bool false) rfl ?_ ?_
      ·(intro W hSw; obtain ⟨y,u,p0,r0,p1,r1,p2,r2⟩ := (FX W hSw).out; go_simp; try (exact wrap_b8 _); try (with_reducible rfl))
      try simp only [Act.put,sl2,sl0,sl1]
      refine zt 22 (.bool false) rfl ?_ ?_
      ·(intro W hSw; obtain ⟨y,u,p0,r0,p1,r1,p2,r2⟩ := (FX W hSw).out; go_simp; try (exact wrap_b8 _); try (with_reducible rfl))
      try simp only [Act.put,sl2,sl0,sl1]
      refine wpAnyH_done (by kernel_rfl) ?_ _
      have HBn := hid (HB.out.trans (hS.mono HB.out.size))
      have HXn := hid (HX.out.below hS HX.out.lt)
      have HYn := hid (HY.out.below hS HY.out.lt)
      clear hS FX
      go_wp2
      go_roundw
      case rel => exact ⟨i + 1,_,hlt,by go_num,rfl,hid (by rw [HSN.out,← Bool.and_assoc,← HK.out]; rfl),HBn,HXn,HYn⟩
      case measure => simp [intOf]; omega
     | true =>
      go_upto_region 19 with fail
      replace hS := hS.drew
      refine wp_region_held_drew (S := fun W => Below wr.heap.size wr W) (by kernel_rfl) hS (fun _ => ?_)
      generalize WB.drew = W at *
      refine zt 0 (.bool true) rfl ?_ ?_
      ·(intro W hSw; obtain ⟨y,u,p0,r0,p1,r1,p2,r2⟩ := (FX W hSw).out; go_simp; try (exact wrap_b8 _); try (with_reducible rfl))
      try simp only [Act.put,sl2,sl0,sl1]
      refine zt 1 (.bool true) rfl ?_ ?_
      ·(intro W hSw; obtain ⟨y,u,p0,r0,p1,r1,p2,r2⟩ := (FX W hSw).out; go_simp; try (exact wrap_b8 _); try (with_reducible rfl))
      try simp only [Act.put,sl2,sl0,sl1]
      refine zt 2 (.bool true) rfl ?_ ?_
      ·(intro W hSw; obtain ⟨y,u,p0,r0,p1,r1,p2,r2⟩ := (FX W hSw).out; go_simp; try (exact wrap_b8 _); try (with_reducible rfl))
      try simp only [Act.put,sl2,sl0,sl1]
      refine zt 3 (.bool true) rfl ?_ ?_
      ·(intro W hSw; obtain ⟨y,u,p0,r0,p1,r1,p2,r2⟩ := (FX W hSw).out; go_simp; try (exact wrap_b8 _); try (with_reducible rfl))
      try simp only [Act.put,sl2,sl0,sl1]
      refine zt 4 (.bool true) rfl ?_ ?_
      ·(intro W hSw; obtain ⟨y,u,p0,r0,p1,r1,p2,r2⟩ := (FX W hSw).out; go_simp; try (exact wrap_b8 _); try (with_reducible rfl))
      try simp only [Act.put,sl2,sl0,sl1]
      refine zt 5 (.bool true) rfl ?_ ?_
      ·(intro W hSw; obtain ⟨y,u,p0,r0,p1,r1,p2,r2⟩ := (FX W hSw).out; go_simp; try (exact wrap_b8 _); try (with_reducible rfl))
      try simp only [Act.put,sl2,sl0,sl1]
      refine zt 6 (.bool true) rfl ?_ ?_
      ·(intro W hSw; obtain ⟨y,u,p0,r0,p1,r1,p2,r2⟩ := (FX W hSw).out; go_simp; try (exact wrap_b8 _); try (with_reducible rfl))
      try simp only [Act.put,sl2,sl0,sl1]
      refine zt 7 (.bool true) rfl ?_ ?_
      ·(intro W hSw; obtain ⟨y,u,p0,r0,p1,r1,p2,r2⟩ := (FX W hSw).out; go_simp; try (exact wrap_b8 _); try (with_reducible rfl))
      try simp only [Act.put,sl2,sl0,sl1]
      refine zt 8 (.pointer (some ⟨w.heap.size,2,none⟩)) rfl ?_ ?_
      ·(intro W hSw; obtain ⟨y,u,p0,r0,p1,r1,p2,r2⟩ := (FX W hSw).out; go_simp; try (exact wrap_b8 _); try (with_reducible rfl))
      try simp only [Act.put,sl2,sl0,sl1]
      refine zt 9 (.slice (some ⟨afblk,afoff,none⟩) afn afc) rfl ?_ ?_
      ·(intro W hSw; obtain ⟨y,u,p0,r0,p1,r1,p2,r2⟩ := (FX W hSw).out; go_simp; try (exact wrap_b8 _); try (with_reducible rfl))
      try simp only [Act.put,sl2,sl0,sl1]
      refine zt 10 (.int .i64 i) rfl ?_ ?_
      ·(intro W hSw; obtain ⟨y,u,p0,r0,p1,r1,p2,r2⟩ := (FX W hSw).out; go_simp; try (exact wrap_b8 _); try (with_reducible rfl))
      try simp only [Act.put,sl2,sl0,sl1]
      refine zt 11 (.pointer (some ⟨afblk,afoff + i * 3,none⟩)) rfl ?_ ?_
      ·(intro W hSw; obtain ⟨y,u,p0,r0,p1,r1,p2,r2⟩ := (FX W hSw).out; go_simp; try (exact wrap_b8 _); try (with_reducible rfl))
      try simp only [Act.put,sl2,sl0,sl1]
      refine zt 12 (.pointer (some ⟨afblk,afoff + i * 3,none⟩)) rfl ?_ ?_
      ·(intro W hSw; obtain ⟨y,u,p0,r0,p1,r1,p2,r2⟩ := (FX W hSw).out; go_simp; try (exact wrap_b8 _); try (with_reducible rfl))
      try simp only [Act.put,sl2,sl0,sl1]
      refine zt 13 (.int .i64 as0) rfl ?_ ?_
      ·(intro W hSw; obtain ⟨y,u,p0,r0,p1,r1,p2,r2⟩ := (FX W hSw).out; go_simp; try (exact wrap_b8 _); try (with_reducible rfl))
      try simp only [Act.put,sl2,sl0,sl1]
      refine zt 14 (.pointer (some ⟨w.heap.size + 1,2,none⟩)) rfl ?_ ?_
      ·(intro W hSw; obtain ⟨y,u,p0,r0,p1,r1,p2,r2⟩ := (FX W hSw).out; go_simp; try (exact wrap_b8 _); try (with_reducible rfl))
      try simp only [Act.put,sl2,sl0,sl1]
      refine zt 15 (.slice (some ⟨bfblk,bfoff,none⟩) afn bfc) rfl ?_ ?_
      ·(intro W hSw; obtain ⟨y,u,p0,r0,p1,r1,p2,r2⟩ := (FX W hSw).out; go_simp; try (exact wrap_b8 _); try (with_reducible rfl))
      try simp only [Act.put,sl2,sl0,sl1]
      refine zt 16 (.int .i64 i) rfl ?_ ?_
      ·(intro W hSw; obtain ⟨y,u,p0,r0,p1,r1,p2,r2⟩ := (FX W hSw).out; go_simp; try (exact wrap_b8 _); try (with_reducible rfl))
      try simp only [Act.put,sl2,sl0,sl1]
      refine zt 17 (.pointer (some ⟨bfblk,bfoff + i * 3,none⟩)) rfl ?_ ?_
      ·(intro W hSw; obtain ⟨y,u,p0,r0,p1,r1,p2,r2⟩ := (FX W hSw).out; go_simp; try (exact wrap_b8 _); try (with_reducible rfl))
      try simp only [Act.put,sl2,sl0,sl1]
      refine zt 18 (.pointer (some ⟨bfblk,bfoff + i * 3,none⟩)) rfl ?_ ?_
      ·(intro W hSw; obtain ⟨y,u,p0,r0,p1,r1,p2,r2⟩ := (FX W hSw).out; go_simp; try (exact wrap_b8 _); try (with_reducible rfl))
      try simp only [Act.put,sl2,sl0,sl1]
      refine zt 19 (.int .i64 bs0) rfl ?_ ?_
      ·(intro W hSw; obtain ⟨y,u,p0,r0,p1,r1,p2,r2⟩ := (FX W hSw).out; go_simp; try (exact wrap_b8 _); try (with_reducible rfl))
      try simp only [Act.put,sl2,sl0,sl1]
      refine zt 20 (.bool q) rfl ?_ ?_
      ·(intro W hSw; obtain ⟨y,u,p0,r0,p1,r1,p2,r2⟩ := (FX W hSw).out; go_simp; try (exact wrap_b8 _); try (with_reducible rfl))
      try simp only [Act.put,sl2,sl0,sl1]
      refine zt 21 (.bool q) rfl ?_ ?_
      ·(intro W hSw; obtain ⟨y,u,p0,r0,p1,r1,p2,r2⟩ := (FX W hSw).out; go_simp; try (exact wrap_b8 _); try (with_reducible rfl))
      try simp only [Act.put,sl2,sl0,sl1]
      refine zt 22 (.bool q) rfl ?_ ?_
      ·(intro W hSw; obtain ⟨y,u,p0,r0,p1,r1,p2,r2⟩ := (FX W hSw).out; go_simp; try (exact wrap_b8 _); try (with_reducible rfl))
      try simp only [Act.put,sl2,sl0,sl1]
      refine wpAnyH_done (by kernel_rfl) ?_ _
      have HBn := hid (HB.out.trans (hS.mono HB.out.size))
      have HXn := hid (HX.out.below hS HX.out.lt)
      have HYn := hid (HY.out.below hS HY.out.lt)
      clear hS FX
      go_wp2
      go_roundw
      case rel => exact ⟨i + 1,_,hlt,by go_num,rfl,hid (by rw [HSN.out,← Bool.and_assoc,← HK.out]; rfl),HBn,HXn,HYn⟩
      case measure => simp [intOf]; omega
 have hie : afn = i := by omega
 subst hie
 have HB3 := HB
 have HX3 := HX
 have HY3 := HY
 obtain ⟨ok2,hok2⟩ : ∃ b,b = ok := ⟨_,rfl⟩
 have HK3 := hid (show ok2 = (ok1 && (List.range afn).all Qf) by rw [hok2]; exact HK.out)
 subst hok2
 clear HB HX HY HK hlt hi
 have y3 := HX3.out.at (k := 3) (v := .slice atbp atbn atbc) rfl
 have natb62 := Natb62.out
 go_wp2
 go_loopw [5,13] (fun vo vi wr => ∃ (i : Nat) (ok : Bool),i ≤ atbn ∧ vi = .int .i64 i ∧ vo = .bool ok ∧ Hid (ok = (ok2 && (List.range i).all Qtb)) ∧ Hid (Below w.heap.size w wr) ∧ Hid (CA w.heap.size #[.slice atp atn atc,.slice aimp aimn aimc,.slice afp afn afc,.slice atbp atbn atbc,.slice amp amn amc,.slice agp agn agc,.slice axp axn axc,.int .i64 ast,.slice aep aen aec,.slice adp adn adc,.bool acnt] 32 wr) ∧ Hid (CA (w.heap.size + 1) #[.slice btp atn btc,.slice bimp aimn bimc,.slice bfp afn bfc,.slice btbp atbn btbc,.slice bmp amn bmc,.slice bgp agn bgc,.slice bxp axn bxc,.int .i64 ast,.slice bep aen bec,.slice bdp adn bdc,.bool acnt] 32 wr)) (fun _ vi _ => atbn - (intOf vi).toNat)
 case atStart => exact ⟨0,ok2,Nat.zero_le _,rfl,rfl,by simp [Hid],HB3,HX3,HY3⟩
 clear y3
 obtain ⟨i,ok,hi,rfl,rfl,HK,HB,HX,HY⟩ := hrel
 have y3 := HX.out.at (k := 3) (v := .slice atbp atbn atbc) rfl
 by_cases hlt : i < atbn
 ·as_aux_lemma =>
   obtain ⟨z0,z1,z2,z3⟩ := HatbX.out i hlt
   obtain ⟨v0,v1,v2,v3⟩ := HbtbX.out i hlt
   obtain ⟨hpa,hga⟩ := HatbG.out (by omega)
   obtain ⟨hpb,hgb⟩ := HbtbG.out (by omega)
   subst hpa hpb
   have x0 := (HB.out.cell (p := ⟨atbblk,atboff + i * 4,none⟩) hga).trans z0
   have w0 := (HB.out.cell (p := ⟨btbblk,btboff + i * 4,none⟩) hgb).trans v0
   have x1 := (HB.out.cell (p := ⟨atbblk,atboff + i * 4 + 1,none⟩) hga).trans z1
   have w1 := (HB.out.cell (p := ⟨btbblk,btboff + i * 4 + 1,none⟩) hgb).trans v1
   have x2 := (HB.out.cell (p := ⟨atbblk,atboff + i * 4 + 2,none⟩) hga).trans z2
   have w2 := (HB.out.cell (p := ⟨btbblk,btboff + i * 4 + 2,none⟩) hgb).trans v2
   have x3 := (HB.out.cell (p := ⟨atbblk,atboff + i * 4 + 3,none⟩) hga).trans z3
   have w3 := (HB.out.cell (p := ⟨btbblk,btboff + i * 4 + 3,none⟩) hgb).trans v3
   have hga2 := Nat.lt_of_lt_of_le hga HB.out.size
   have hgb2 := Nat.lt_of_lt_of_le hgb HB.out.size
   clear z0 v0 z1 v1 z2 v2 z3 v3 hga hgb
   have HSN := hid (show (List.range (i + 1)).all Qtb = ((List.range i).all Qtb && (((atbt0 i == btbt0 i) && (atbt1 i == btbt1 i) && (atbt2 i == btbt2 i) && (atbu3 i == btbu3 i)))) by rw [range_all_snoc]; rw [HQtb.out])
   generalize atbt0 i = as0 at *
   generalize atbt1 i = as1 at *
   generalize atbt2 i = as2 at *
   generalize atbu3 i = ae3 at *
   generalize btbt0 i = bs0 at *
   generalize btbt1 i = bs1 at *
   generalize btbt2 i = bs2 at *
   generalize btbu3 i = be3 at *
   have FX := fun W (h : Below wr.heap.size wr W) => hid (And.intro ((HX.out.below h HX.out.lt).at (k := 3) (v := .slice (some ⟨atbblk,atboff,none⟩) atbn atbc) rfl) (And.intro ((HY.out.below h HY.out.lt).at (k := 3) (v := .slice (some ⟨btbblk,btboff,none⟩) atbn btbc) rfl) (And.intro ((h.cell (p := ⟨atbblk,atboff + i * 4,none⟩) hga2).trans x0) (And.intro ((h.cell (p := ⟨btbblk,btboff + i * 4,none⟩) hgb2).trans w0) (And.intro ((h.cell (p := ⟨atbblk,atboff + i * 4 + 1,none⟩) hga2).trans x1) (And.intro ((h.cell (p := ⟨btbblk,btboff + i * 4 + 1,none⟩) hgb2).trans w1) (And.intro ((h.cell (p := ⟨atbblk,atboff + i * 4 + 2,none⟩) hga2).trans x2) (And.intro ((h.cell (p := ⟨btbblk,btboff + i * 4 + 2,none⟩) hgb2).trans w2) (And.intro ((h.cell (p := ⟨atbblk,atboff + i * 4 + 3,none⟩) hga2).trans x3) ((h.cell (p := ⟨btbblk,btboff + i * 4 + 3,none⟩) hgb2).trans w3))))))))))
   clear x0 w0 x1 w1 x2 w2 x3 w3 hga2 hgb2
   have hq := fun W => eql_tab as0 as1 as2 ae3 bs0 bs1 bs2 be3 W
   obtain ⟨q,hq2⟩ : ∃ q,q = ((as0 == bs0) && (as1 == bs1) && (as2 == bs2) && (ae3 == be3)) := ⟨_,rfl⟩
   rw [← hq2] at HSN hq
   clear hq2
   cases ok with
   | true =>
    go_upto_region 23 with fail
    clear y3
    have hS : Below wr.heap.size wr wr.drew := (Below.refl _ _).drew
    refine wp_region_held_drew (S := fun W => Below wr.heap.size wr W) (by kernel_rfl) hS (fun _ => ?_)
    generalize wr.drew = W at *
    refine zt 0 (.bool true) rfl ?_ ?_
    ·(intro W hSw; obtain ⟨y,u,p0,r0,p1,r1,p2,r2,p3,r3⟩ := (FX W hSw).out; go_simp; try (exact wrap_b8 _); try (with_reducible rfl))
    try simp only [Act.put,sl2,sl0,sl1]
    refine zt 1 (.bool true) rfl ?_ ?_
    ·(intro W hSw; obtain ⟨y,u,p0,r0,p1,r1,p2,r2,p3,r3⟩ := (FX W hSw).out; go_simp; try (exact wrap_b8 _); try (with_reducible rfl))
    try simp only [Act.put,sl2,sl0,sl1]
    refine zt 2 (.pointer (some ⟨w.heap.size,3,none⟩)) rfl ?_ ?_
    ·(intro W hSw; obtain ⟨y,u,p0,r0,p1,r1,p2,r2,p3,r3⟩ := (FX W hSw).out; go_simp; try (exact wrap_b8 _); try (with_reducible rfl))
    try simp only [Act.put,sl2,sl0,sl1]
    refine zt 3 (.slice (some ⟨atbblk,atboff,none⟩) atbn atbc) rfl ?_ ?_
    ·(intro W hSw; obtain ⟨y,u,p0,r0,p1,r1,p2,r2,p3,r3⟩ := (FX W hSw).out; go_simp; try (exact wrap_b8 _); try (with_reducible rfl))
    try simp only [Act.put,sl2,sl0,sl1]
    refine zt 4 (.int .i64 i) rfl ?_ ?_
    ·(intro W hSw; obtain ⟨y,u,p0,r0,p1,r1,p2,r2,p3,r3⟩ := (FX W hSw).out; go_simp; try (exact wrap_b8 _); try (with_reducible rfl))
    try simp only [Act.put,sl2,sl0,sl1]
    refine zt 5 (.pointer (some ⟨atbblk,atboff + i * 4,none⟩)) rfl ?_ ?_
    ·(intro W hSw; obtain ⟨y,u,p0,r0,p1,r1,p2,r2,p3,r3⟩ := (FX W hSw).out; go_simp; try (exact wrap_b8 _); try (with_reducible rfl))
    try simp only [Act.put,sl2,sl0,sl1]
    refine zt 6 (.agg #[.int .i64 as0,.int .i64 as1,.int .i64 as2,.bool ae3]) rfl ?_ ?_
    ·(intro W hSw; obtain ⟨y,u,p0,r0,p1,r1,p2,r2,p3,r3⟩ := (FX W hSw).out; go_simp; try (exact wrap_b8 _); try (with_reducible rfl))
    try simp only [Act.put,sl2,sl0,sl1]
    refine zt 7 (.pointer (some ⟨w.heap.size + 1,3,none⟩)) rfl ?_ ?_
    ·(intro W hSw; obtain ⟨y,u,p0,r0,p1,r1,p2,r2,p3,r3⟩ := (FX W hSw).out; go_simp; try (exact wrap_b8 _); try (with_reducible rfl))
    try simp only [Act.put,sl2,sl0,sl1]
    refine zt 8 (.slice (some ⟨btbblk,btboff,none⟩) atbn btbc) rfl ?_ ?_
    ·(intro W hSw; obtain ⟨y,u,p0,r0,p1,r1,p2,r2,p3,r3⟩ := (FX W hSw).out; go_simp; try (exact wrap_b8 _); try (with_reducible rfl))
    try simp only [Act.put,sl2,sl0,sl1]
    refine zt 9 (.int .i64 i) rfl ?_ ?_
    ·(intro W hSw; obtain ⟨y,u,p0,r0,p1,r1,p2,r2,p3,r3⟩ := (FX W hSw).out; go_simp; try (exact wrap_b8 _); try (with_reducible rfl))
    try simp only [Act.put,sl2,sl0,sl1]
    refine zt 10 (.pointer (some ⟨btbblk,btboff + i * 4,none⟩)) rfl ?_ ?_
    ·(intro W hSw; obtain ⟨y,u,p0,r0,p1,r1,p2,r2,p3,r3⟩ := (FX W hSw).out; go_simp; try (exact wrap_b8 _); try (with_reducible rfl))
    try simp only [Act.put,sl2,sl0,sl1]
    refine zt 11 (.agg #[.int .i64 bs0,.int .i64 bs1,.int .i64 bs2,.bool be3]) rfl ?_ ?_
    ·(intro W hSw; obtain ⟨y,u,p0,r0,p1,r1,p2,r2,p3,r3⟩ := (FX W hSw).out; go_simp; try (exact wrap_b8 _); try (with_reducible rfl))
    try simp only [Act.put,sl2,sl0,sl1]
    refine zt 12 (.bool q) rfl ?_ ?_
    ·(intro W hSw; obtain ⟨y,u,p0,r0,p1,r1,p2,r2,p3,r3⟩ := (FX W hSw).out; go_simp; try (exact wrap_b8 _); try (with_reducible rfl))
    try simp only [Act.put,sl2,sl0,sl1]
    refine zt 13 (.bool q) rfl ?_ ?_
    ·(intro W hSw; obtain ⟨y,u,p0,r0,p1,r1,p2,r2,p3,r3⟩ := (FX W hSw).out; go_simp; try (exact wrap_b8 _); try (with_reducible rfl))
    try simp only [Act.put,sl2,sl0,sl1]
    refine zt 14 (.bool q) rfl ?_ ?_
    ·(intro W hSw; obtain ⟨y,u,p0,r0,p1,r1,p2,r2,p3,r3⟩ := (FX W hSw).out; go_simp; try (exact wrap_b8 _); try (with_reducible rfl))
    try simp only [Act.put,sl2,sl0,sl1]
    refine wpAnyH_done (by kernel_rfl) ?_ _
    have HBn := hid (HB.out.trans (hS.mono HB.out.size))
    have HXn := hid (HX.out.below hS HX.out.lt)
    have HYn := hid (HY.out.below hS HY.out.lt)
    clear hS FX
    go_wp2
    go_roundw
    case rel => exact ⟨i + 1,_,hlt,by go_num,rfl,hid (by rw [HSN.out,← Bool.and_assoc,← HK.out]; rfl),HBn,HXn,HYn⟩
    case measure => simp [intOf]; omega
   | false =>
    go_upto_region 23 with fail
    clear y3
    have hS : Below wr.heap.size wr wr.drew := (Below.refl _ _).drew
    refine wp_region_held_drew (S := fun W => Below wr.heap.size wr W) (by kernel_rfl) hS (fun _ => ?_)
    generalize wr.drew = W at *
    refine zt 0 (.bool false) rfl ?_ ?_
    ·(intro W hSw; skip; go_simp; try (exact wrap_b8 _); try (with_reducible rfl))
    try simp only [Act.put,sl2,sl0,sl1]
    refine zt 1 (.bool false) rfl ?_ ?_
    ·(intro W hSw; skip; go_simp; try (exact wrap_b8 _); try (with_reducible rfl))
    try simp only [Act.put,sl2,sl0,sl1]
    refine zu 2 rfl ?_
    try simp only [Act.put,sl2,sl0,sl1]
    refine zu 3 rfl ?_
    try simp only [Act.put,sl2,sl0,sl1]
    refine zu 4 rfl ?_
    try simp only [Act.put,sl2,sl0,sl1]
    refine zu 5 rfl ?_
    try simp only [Act.put,sl2,sl0,sl1]
    refine zu 6 rfl ?_
    try simp only [Act.put,sl2,sl0,sl1]
    refine zu 7 rfl ?_
    try simp only [Act.put,sl2,sl0,sl1]
    refine zu 8 rfl ?_
    try simp only [Act.put,sl2,sl0,sl1]
    refine zu 9 rfl ?_
    try simp only [Act.put,sl2,sl0,sl1]
    refine zu 10 rfl ?_
    try simp only [Act.put,sl2,sl0,sl1]
    refine zu 11 rfl ?_
    try simp only [Act.put,sl2,sl0,sl1]
    refine zu 12 rfl ?_
    try simp only [Act.put,sl2,sl0,sl1]
    refine zt 13 (.bool false) rfl ?_ ?_
    ·(intro W hSw; skip; go_simp; try (exact wrap_b8 _); try (with_reducible rfl))
    try simp only [Act.put,sl2,sl0,sl1]
    refine zt 14 (.bool false) rfl ?_ ?_
    ·(intro W hSw; skip; go_simp; try (exact wrap_b8 _); try (with_reducible rfl))
    try simp only [Act.put,sl2,sl0,sl1]
    refine wpAnyH_done (by kernel_rfl) ?_ _
    have HBn := hid (HB.out.trans (hS.mono HB.out.size))
    have HXn := hid (HX.out.below hS HX.out.lt)
    have HYn := hid (HY.out.below hS HY.out.lt)
    clear hS FX
    go_wp2
    go_roundw
    case rel => exact ⟨i + 1,_,hlt,by go_num,rfl,hid (by rw [HSN.out,← Bool.and_assoc,← HK.out]; rfl),HBn,HXn,HYn⟩
    case measure => simp [intOf]; omega
 have hie : atbn = i := by omega
 subst hie
 have HB4 := HB
 have HX4 := HX
 have HY4 := HY
 obtain ⟨ok3,hok3⟩ : ∃ b,b = ok := ⟨_,rfl⟩
 have HK4 := hid (show ok3 = (ok2 && (List.range atbn).all Qtb) by rw [hok3]; exact HK.out)
 subst hok3
 clear HB HX HY HK hlt hi
 have y4 := HX4.out.at (k := 4) (v := .slice amp amn amc) rfl
 have nam62 := Nam62.out
 go_wp2
 go_loopw [5,14] (fun vo vi wr => ∃ (i : Nat) (ok : Bool),i ≤ amn ∧ vi = .int .i64 i ∧ vo = .bool ok ∧ Hid (ok = (ok3 && (List.range i).all Qm)) ∧ Hid (Below w.heap.size w wr) ∧ Hid (CA w.heap.size #[.slice atp atn atc,.slice aimp aimn aimc,.slice afp afn afc,.slice atbp atbn atbc,.slice amp amn amc,.slice agp agn agc,.slice axp axn axc,.int .i64 ast,.slice aep aen aec,.slice adp adn adc,.bool acnt] 32 wr) ∧ Hid (CA (w.heap.size + 1) #[.slice btp atn btc,.slice bimp aimn bimc,.slice bfp afn bfc,.slice btbp atbn btbc,.slice bmp amn bmc,.slice bgp agn bgc,.slice bxp axn bxc,.int .i64 ast,.slice bep aen bec,.slice bdp adn bdc,.bool acnt] 32 wr)) (fun _ vi _ => amn - (intOf vi).toNat)
 case atStart => exact ⟨0,ok3,Nat.zero_le _,rfl,rfl,by simp [Hid],HB4,HX4,HY4⟩
 clear y4
 obtain ⟨i,ok,hi,rfl,rfl,HK,HB,HX,HY⟩ := hrel
 have y4 := HX.out.at (k := 4) (v := .slice amp amn amc) rfl
 by_cases hlt : i < amn
 ·as_aux_lemma =>
   obtain ⟨z0,z1,z2⟩ := HamX.out i hlt
   obtain ⟨v0,v1,v2⟩ := HbmX.out i hlt
   obtain ⟨hpa,hga⟩ := HamG.out (by omega)
   obtain ⟨hpb,hgb⟩ := HbmG.out (by omega)
   subst hpa hpb
   have x0 := (HB.out.cell (p := ⟨amblk,amoff + i * 3,none⟩) hga).trans z0
   have w0 := (HB.out.cell (p := ⟨bmblk,bmoff + i * 3,none⟩) hgb).trans v0
   have x1 := (HB.out.cell (p := ⟨amblk,amoff + i * 3 + 1,none⟩) hga).trans z1
   have w1 := (HB.out.cell (p := ⟨bmblk,bmoff + i * 3 + 1,none⟩) hgb).trans v1
   have x2 := (HB.out.cell (p := ⟨amblk,amoff + i * 3 + 2,none⟩) hga).trans z2
   have w2 := (HB.out.cell (p := ⟨bmblk,bmoff + i * 3 + 2,none⟩) hgb).trans v2
   have hga2 := Nat.lt_of_lt_of_le hga HB.out.size
   have hgb2 := Nat.lt_of_lt_of_le hgb HB.out.size
   clear z0 v0 z1 v1 z2 v2 hga hgb
   have HSN := hid (show (List.range (i + 1)).all Qm = ((List.range i).all Qm && (((amt0 i == bmt0 i) && (amt1 i == bmt1 i) && (amu2 i == bmu2 i)))) by rw [range_all_snoc]; rw [HQm.out])
   generalize amt0 i = as0 at *
   generalize amt1 i = as1 at *
   generalize amu2 i = ae2 at *
   generalize bmt0 i = bs0 at *
   generalize bmt1 i = bs1 at *
   generalize bmu2 i = be2 at *
   have FX := fun W (h : Below wr.heap.size wr W) => hid (And.intro ((HX.out.below h HX.out.lt).at (k := 4) (v := .slice (some ⟨amblk,amoff,none⟩) amn amc) rfl) (And.intro ((HY.out.below h HY.out.lt).at (k := 4) (v := .slice (some ⟨bmblk,bmoff,none⟩) amn bmc) rfl) (And.intro ((h.cell (p := ⟨amblk,amoff + i * 3,none⟩) hga2).trans x0) (And.intro ((h.cell (p := ⟨bmblk,bmoff + i * 3,none⟩) hgb2).trans w0) (And.intro ((h.cell (p := ⟨amblk,amoff + i * 3 + 1,none⟩) hga2).trans x1) (And.intro ((h.cell (p := ⟨bmblk,bmoff + i * 3 + 1,none⟩) hgb2).trans w1) (And.intro ((h.cell (p := ⟨amblk,amoff + i * 3 + 2,none⟩) hga2).trans x2) ((h.cell (p := ⟨bmblk,bmoff + i * 3 + 2,none⟩) hgb2).trans w2))))))))
   clear x0 w0 x1 w1 x2 w2 hga2 hgb2
   have hq := fun W => eql_lim as0 as1 ae2 bs0 bs1 be2 W
   obtain ⟨q,hq2⟩ : ∃ q,q = ((as0 == bs0) && (as1 == bs1) && (ae2 == be2)) := ⟨_,rfl⟩
   rw [← hq2] at HSN hq
   clear hq2
   cases ok with
   | true =>
    go_upto_region 27 with fail
    clear y4
    have hS : Below wr.heap.size wr wr.drew := (Below.refl _ _).drew
    refine wp_region_held_drew (S := fun W => Below wr.heap.size wr W) (by kernel_rfl) hS (fun _ => ?_)
    generalize wr.drew = W at *
    refine zt 0 (.bool true) rfl ?_ ?_
    ·(intro W hSw; obtain ⟨y,u,p0,r0,p1,r1,p2,r2⟩ := (FX W hSw).out; go_simp; try (exact wrap_b8 _); try (with_reducible rfl))
    try simp only [Act.put,sl2,sl0,sl1]
    refine zt 1 (.bool true) rfl ?_ ?_
    ·(intro W hSw; obtain ⟨y,u,p0,r0,p1,r1,p2,r2⟩ := (FX W hSw).out; go_simp; try (exact wrap_b8 _); try (with_reducible rfl))
    try simp only [Act.put,sl2,sl0,sl1]
    refine zt 2 (.pointer (some ⟨w.heap.size,4,none⟩)) rfl ?_ ?_
    ·(intro W hSw; obtain ⟨y,u,p0,r0,p1,r1,p2,r2⟩ := (FX W hSw).out; go_simp; try (exact wrap_b8 _); try (with_reducible rfl))
    try simp only [Act.put,sl2,sl0,sl1]
    refine zt 3 (.slice (some ⟨amblk,amoff,none⟩) amn amc) rfl ?_ ?_
    ·(intro W hSw; obtain ⟨y,u,p0,r0,p1,r1,p2,r2⟩ := (FX W hSw).out; go_simp; try (exact wrap_b8 _); try (with_reducible rfl))
    try simp only [Act.put,sl2,sl0,sl1]
    refine zt 4 (.int .i64 i) rfl ?_ ?_
    ·(intro W hSw; obtain ⟨y,u,p0,r0,p1,r1,p2,r2⟩ := (FX W hSw).out; go_simp; try (exact wrap_b8 _); try (with_reducible rfl))
    try simp only [Act.put,sl2,sl0,sl1]
    refine zt 5 (.pointer (some ⟨amblk,amoff + i * 3,none⟩)) rfl ?_ ?_
    ·(intro W hSw; obtain ⟨y,u,p0,r0,p1,r1,p2,r2⟩ := (FX W hSw).out; go_simp; try (exact wrap_b8 _); try (with_reducible rfl))
    try simp only [Act.put,sl2,sl0,sl1]
    refine zt 6 (.agg #[.int .i64 as0,.int .i64 as1,.bool ae2]) rfl ?_ ?_
    ·(intro W hSw; obtain ⟨y,u,p0,r0,p1,r1,p2,r2⟩ := (FX W hSw).out; go_simp; try (exact wrap_b8 _); try (with_reducible rfl))
    try simp only [Act.put,sl2,sl0,sl1]
    refine zt 7 (.pointer (some ⟨w.heap.size + 1,4,none⟩)) rfl ?_ ?_
    ·(intro W hSw; obtain ⟨y,u,p0,r0,p1,r1,p2,r2⟩ := (FX W hSw).out; go_simp; try (exact wrap_b8 _); try (with_reducible rfl))
    try simp only [Act.put,sl2,sl0,sl1]
    refine zt 8 (.slice (some ⟨bmblk,bmoff,none⟩) amn bmc) rfl ?_ ?_
    ·(intro W hSw; obtain ⟨y,u,p0,r0,p1,r1,p2,r2⟩ := (FX W hSw).out; go_simp; try (exact wrap_b8 _); try (with_reducible rfl))
    try simp only [Act.put,sl2,sl0,sl1]
    refine zt 9 (.int .i64 i) rfl ?_ ?_
    ·(intro W hSw; obtain ⟨y,u,p0,r0,p1,r1,p2,r2⟩ := (FX W hSw).out; go_simp; try (exact wrap_b8 _); try (with_reducible rfl))
    try simp only [Act.put,sl2,sl0,sl1]
    refine zt 10 (.pointer (some ⟨bmblk,bmoff + i * 3,none⟩)) rfl ?_ ?_
    ·(intro W hSw; obtain ⟨y,u,p0,r0,p1,r1,p2,r2⟩ := (FX W hSw).out; go_simp; try (exact wrap_b8 _); try (with_reducible rfl))
    try simp only [Act.put,sl2,sl0,sl1]
    refine zt 11 (.agg #[.int .i64 bs0,.int .i64 bs1,.bool be2]) rfl ?_ ?_
    ·(intro W hSw; obtain ⟨y,u,p0,r0,p1,r1,p2,r2⟩ := (FX W hSw).out; go_simp; try (exact wrap_b8 _); try (with_reducible rfl))
    try simp only [Act.put,sl2,sl0,sl1]
    refine zt 12 (.bool q) rfl ?_ ?_
    ·(intro W hSw; obtain ⟨y,u,p0,r0,p1,r1,p2,r2⟩ := (FX W hSw).out; go_simp; try (exact wrap_b8 _); try (with_reducible rfl))
    try simp only [Act.put,sl2,sl0,sl1]
    refine zt 13 (.bool q) rfl ?_ ?_
    ·(intro W hSw; obtain ⟨y,u,p0,r0,p1,r1,p2,r2⟩ := (FX W hSw).out; go_simp; try (exact wrap_b8 _); try (with_reducible rfl))
    try simp only [Act.put,sl2,sl0,sl1]
    refine zt 14 (.bool q) rfl ?_ ?_
    ·(intro W hSw; obtain ⟨y,u,p0,r0,p1,r1,p2,r2⟩ := (FX W hSw).out; go_simp; try (exact wrap_b8 _); try (with_reducible rfl))
    try simp only [Act.put,sl2,sl0,sl1]
    refine wpAnyH_done (by kernel_rfl) ?_ _
    have HBn := hid (HB.out.trans (hS.mono HB.out.size))
    have HXn := hid (HX.out.below hS HX.out.lt)
    have HYn := hid (HY.out.below hS HY.out.lt)
    clear hS FX
    go_wp2
    go_roundw
    case rel => exact ⟨i + 1,_,hlt,by go_num,rfl,hid (by rw [HSN.out,← Bool.and_assoc,← HK.out]; rfl),HBn,HXn,HYn⟩
    case measure => simp [intOf]; omega
   | false =>
    go_upto_region 27 with fail
    clear y4
    have hS : Below wr.heap.size wr wr.drew := (Below.refl _ _).drew
    refine wp_region_held_drew (S := fun W => Below wr.heap.size wr W) (by kernel_rfl) hS (fun _ => ?_)
    generalize wr.drew = W at *
    refine zt 0 (.bool false) rfl ?_ ?_
    ·(intro W hSw; skip; go_simp; try (exact wrap_b8 _); try (with_reducible rfl))
    try simp only [Act.put,sl2,sl0,sl1]
    refine zt 1 (.bool false) rfl ?_ ?_
    ·(intro W hSw; skip; go_simp; try (exact wrap_b8 _); try (with_reducible rfl))
    try simp only [Act.put,sl2,sl0,sl1]
    refine zu 2 rfl ?_
    try simp only [Act.put,sl2,sl0,sl1]
    refine zu 3 rfl ?_
    try simp only [Act.put,sl2,sl0,sl1]
    refine zu 4 rfl ?_
    try simp only [Act.put,sl2,sl0,sl1]
    refine zu 5 rfl ?_
    try simp only [Act.put,sl2,sl0,sl1]
    refine zu 6 rfl ?_
    try simp only [Act.put,sl2,sl0,sl1]
    refine zu 7 rfl ?_
    try simp only [Act.put,sl2,sl0,sl1]
    refine zu 8 rfl ?_
    try simp only [Act.put,sl2,sl0,sl1]
    refine zu 9 rfl ?_
    try simp only [Act.put,sl2,sl0,sl1]
    refine zu 10 rfl ?_
    try simp only [Act.put,sl2,sl0,sl1]
    refine zu 11 rfl ?_
    try simp only [Act.put,sl2,sl0,sl1]
    refine zu 12 rfl ?_
    try simp only [Act.put,sl2,sl0,sl1]
    refine zt 13 (.bool false) rfl ?_ ?_
    ·(intro W hSw; skip; go_simp; try (exact wrap_b8 _); try (with_reducible rfl))
    try simp only [Act.put,sl2,sl0,sl1]
    refine zt 14 (.bool false) rfl ?_ ?_
    ·(intro W hSw; skip; go_simp; try (exact wrap_b8 _); try (with_reducible rfl))
    try simp only [Act.put,sl2,sl0,sl1]
    refine wpAnyH_done (by kernel_rfl) ?_ _
    have HBn := hid (HB.out.trans (hS.mono HB.out.size))
    have HXn := hid (HX.out.below hS HX.out.lt)
    have HYn := hid (HY.out.below hS HY.out.lt)
    clear hS FX
    go_wp2
    go_roundw
    case rel => exact ⟨i + 1,_,hlt,by go_num,rfl,hid (by rw [HSN.out,← Bool.and_assoc,← HK.out]; rfl),HBn,HXn,HYn⟩
    case measure => simp [intOf]; omega
 have hie : amn = i := by omega
 subst hie
 have HB5 := HB
 have HX5 := HX
 have HY5 := HY
 obtain ⟨ok4,hok4⟩ : ∃ b,b = ok := ⟨_,rfl⟩
 have HK5 := hid (show ok4 = (ok3 && (List.range amn).all Qm) by rw [hok4]; exact HK.out)
 subst hok4
 clear HB HX HY HK hlt hi
 have y5 := HX5.out.at (k := 5) (v := .slice agp agn agc) rfl
 have nag62 := Nag62.out
 go_wp2
 go_loopw [5,15] (fun vo vi wr => ∃ (i : Nat) (ok : Bool),i ≤ agn ∧ vi = .int .i64 i ∧ vo = .bool ok ∧ Hid (ok = (ok4 && (List.range i).all Qg)) ∧ Hid (Below w.heap.size w wr) ∧ Hid (CA w.heap.size #[.slice atp atn atc,.slice aimp aimn aimc,.slice afp afn afc,.slice atbp atbn atbc,.slice amp amn amc,.slice agp agn agc,.slice axp axn axc,.int .i64 ast,.slice aep aen aec,.slice adp adn adc,.bool acnt] 32 wr) ∧ Hid (CA (w.heap.size + 1) #[.slice btp atn btc,.slice bimp aimn bimc,.slice bfp afn bfc,.slice btbp atbn btbc,.slice bmp amn bmc,.slice bgp agn bgc,.slice bxp axn bxc,.int .i64 ast,.slice bep aen bec,.slice bdp adn bdc,.bool acnt] 32 wr)) (fun _ vi _ => agn - (intOf vi).toNat)
 case atStart => exact ⟨0,ok4,Nat.zero_le _,rfl,rfl,by simp [Hid],HB5,HX5,HY5⟩
 clear y5
 obtain ⟨i,ok,hi,rfl,rfl,HK,HB,HX,HY⟩ := hrel
 have y5 := HX.out.at (k := 5) (v := .slice agp agn agc) rfl
 by_cases hlt : i < agn
 ·as_aux_lemma =>
   obtain ⟨z0,z1,z2⟩ := HagX.out i hlt
   obtain ⟨v0,v1,v2⟩ := HbgX.out i hlt
   obtain ⟨hpa,hga⟩ := HagG.out (by omega)
   obtain ⟨hpb,hgb⟩ := HbgG.out (by omega)
   subst hpa hpb
   have x0 := (HB.out.cell (p := ⟨agblk,agoff + i * 3,none⟩) hga).trans z0
   have w0 := (HB.out.cell (p := ⟨bgblk,bgoff + i * 3,none⟩) hgb).trans v0
   have x1 := (HB.out.cell (p := ⟨agblk,agoff + i * 3 + 1,none⟩) hga).trans z1
   have w1 := (HB.out.cell (p := ⟨bgblk,bgoff + i * 3 + 1,none⟩) hgb).trans v1
   have x2 := (HB.out.cell (p := ⟨agblk,agoff + i * 3 + 2,none⟩) hga).trans z2
   have w2 := (HB.out.cell (p := ⟨bgblk,bgoff + i * 3 + 2,none⟩) hgb).trans v2
   have hga2 := Nat.lt_of_lt_of_le hga HB.out.size
   have hgb2 := Nat.lt_of_lt_of_le hgb HB.out.size
   clear z0 v0 z1 v1 z2 v2 hga hgb
   have KKA := fun W h => hid (HgA.out i hlt hlt W h)
   have HSN := hid (show (List.range (i + 1)).all Qg = ((List.range i).all Qg && (gA i && ((agt0 i == bgt0 i) && (agu1 i == bgu1 i)))) by rw [range_all_snoc]; rw [HQg.out])
   generalize gA i = bA at *
   generalize agt0 i = as0 at *
   generalize agu1 i = ae1 at *
   generalize agp2 i = aq2 at *
   generalize agn2 i = am2 at *
   generalize agc2 i = ad2 at *
   generalize bgt0 i = bs0 at *
   generalize bgu1 i = be1 at *
   generalize bgp2 i = bq2 at *
   generalize bgn2 i = bm2 at *
   generalize bgc2 i = bd2 at *
   have FX := fun W (h : Below wr.heap.size wr W) => hid (And.intro ((HX.out.below h HX.out.lt).at (k := 5) (v := .slice (some ⟨agblk,agoff,none⟩) agn agc) rfl) (And.intro ((HY.out.below h HY.out.lt).at (k := 5) (v := .slice (some ⟨bgblk,bgoff,none⟩) agn bgc) rfl) (And.intro ((h.cell (p := ⟨agblk,agoff + i * 3,none⟩) hga2).trans x0) (And.intro ((h.cell (p := ⟨bgblk,bgoff + i * 3,none⟩) hgb2).trans w0) (And.intro ((h.cell (p := ⟨agblk,agoff + i * 3 + 1,none⟩) hga2).trans x1) (And.intro ((h.cell (p := ⟨bgblk,bgoff + i * 3 + 1,none⟩) hgb2).trans w1) (And.intro ((h.cell (p := ⟨agblk,agoff + i * 3 + 2,none⟩) hga2).trans x2) ((h.cell (p := ⟨bgblk,bgoff + i * 3 + 2,none⟩) hgb2).trans w2))))))))
   clear x0 w0 x1 w1 x2 w2 hga2 hgb2
   go_upto_region 31 with fail
   clear y5
   have hS : Below wr.heap.size wr wr.drew := (Below.refl _ _).drew
   refine wp_region_held_drew (S := fun W => Below wr.heap.size wr W) (by kernel_rfl) hS (fun _ => ?_)
   generalize wr.drew = W at *
   refine zt 0 (.pointer (some ⟨w.heap.size,5,none⟩)) rfl ?_ ?_
   ·(intro W hSw; obtain ⟨y,u,p0,r0,p1,r1,p2,r2⟩ := (FX W hSw).out; go_simp; try (exact wrap_b8 _); try (with_reducible rfl))
   try simp only [Act.put,sl2,sl0,sl1]
   refine zt 1 (.slice (some ⟨agblk,agoff,none⟩) agn agc) rfl ?_ ?_
   ·(intro W hSw; obtain ⟨y,u,p0,r0,p1,r1,p2,r2⟩ := (FX W hSw).out; go_simp; try (exact wrap_b8 _); try (with_reducible rfl))
   try simp only [Act.put,sl2,sl0,sl1]
   refine zt 2 (.int .i64 i) rfl ?_ ?_
   ·(intro W hSw; obtain ⟨y,u,p0,r0,p1,r1,p2,r2⟩ := (FX W hSw).out; go_simp; try (exact wrap_b8 _); try (with_reducible rfl))
   try simp only [Act.put,sl2,sl0,sl1]
   refine zt 3 (.pointer (some ⟨agblk,agoff + i * 3,none⟩)) rfl ?_ ?_
   ·(intro W hSw; obtain ⟨y,u,p0,r0,p1,r1,p2,r2⟩ := (FX W hSw).out; go_simp; try (exact wrap_b8 _); try (with_reducible rfl))
   try simp only [Act.put,sl2,sl0,sl1]
   refine zt 4 (.pointer (some ⟨agblk,agoff + i * 3 + 2,none⟩)) rfl ?_ ?_
   ·(intro W hSw; obtain ⟨y,u,p0,r0,p1,r1,p2,r2⟩ := (FX W hSw).out; go_simp; try (exact wrap_b8 _); try (with_reducible rfl))
   try simp only [Act.put,sl2,sl0,sl1]
   refine zt 5 (.slice aq2 am2 ad2) rfl ?_ ?_
   ·(intro W hSw; obtain ⟨y,u,p0,r0,p1,r1,p2,r2⟩ := (FX W hSw).out; go_simp; try (exact wrap_b8 _); try (with_reducible rfl))
   try simp only [Act.put,sl2,sl0,sl1]
   refine zt 6 (.pointer (some ⟨w.heap.size + 1,5,none⟩)) rfl ?_ ?_
   ·(intro W hSw; obtain ⟨y,u,p0,r0,p1,r1,p2,r2⟩ := (FX W hSw).out; go_simp; try (exact wrap_b8 _); try (with_reducible rfl))
   try simp only [Act.put,sl2,sl0,sl1]
   refine zt 7 (.slice (some ⟨bgblk,bgoff,none⟩) agn bgc) rfl ?_ ?_
   ·(intro W hSw; obtain ⟨y,u,p0,r0,p1,r1,p2,r2⟩ := (FX W hSw).out; go_simp; try (exact wrap_b8 _); try (with_reducible rfl))
   try simp only [Act.put,sl2,sl0,sl1]
   refine zt 8 (.int .i64 i) rfl ?_ ?_
   ·(intro W hSw; obtain ⟨y,u,p0,r0,p1,r1,p2,r2⟩ := (FX W hSw).out; go_simp; try (exact wrap_b8 _); try (with_reducible rfl))
   try simp only [Act.put,sl2,sl0,sl1]
   refine zt 9 (.pointer (some ⟨bgblk,bgoff + i * 3,none⟩)) rfl ?_ ?_
   ·(intro W hSw; obtain ⟨y,u,p0,r0,p1,r1,p2,r2⟩ := (FX W hSw).out; go_simp; try (exact wrap_b8 _); try (with_reducible rfl))
   try simp only [Act.put,sl2,sl0,sl1]
   refine zt 10 (.pointer (some ⟨bgblk,bgoff + i * 3 + 2,none⟩)) rfl ?_ ?_
   ·(intro W hSw; obtain ⟨y,u,p0,r0,p1,r1,p2,r2⟩ := (FX W hSw).out; go_simp; try (exact wrap_b8 _); try (with_reducible rfl))
   try simp only [Act.put,sl2,sl0,sl1]
   refine zt 11 (.slice bq2 bm2 bd2) rfl ?_ ?_
   ·(intro W hSw; obtain ⟨y,u,p0,r0,p1,r1,p2,r2⟩ := (FX W hSw).out; go_simp; try (exact wrap_b8 _); try (with_reducible rfl))
   try simp only [Act.put,sl2,sl0,sl1]
   refine zr 12 rfl (fun K hK => ?_)
   go_simp
   go_at_call 93
   (with_reducible refine (KKA _ (HB.out.trans (hS.mono HB.out.size))).out.mono ?_)
   rintro e WA ⟨rfl,hb⟩
   replace hS := hS.trans (hb.mono hS.size)
   clear hb
   refine hK.out _ _ hS (fun _ => ?_)
   clear hK K
   try simp only [Act.put,sl2,sl0,sl1]
   refine zt 13 (.bool bA) rfl ?_ ?_
   ·(intro W hSw; obtain ⟨y,u,p0,r0,p1,r1,p2,r2⟩ := (FX W hSw).out; go_simp; try (exact wrap_b8 _); try (with_reducible rfl))
   try simp only [Act.put,sl2,sl0,sl1]
   refine wpAnyH_done (by kernel_rfl) ?_ _
   have hq := fun W => eql_glo as0 ae1 bs0 be1 W
   obtain ⟨q,hq2⟩ : ∃ q,q = ((as0 == bs0) && (ae1 == be1)) := ⟨_,rfl⟩
   rw [← hq2] at HSN hq
   clear hq2
   cases ok with
   | false =>
    go_upto_region 32 with fail
    replace hS := hS.drew
    refine wp_region_held_drew (S := fun W => Below wr.heap.size wr W) (by kernel_rfl) hS (fun _ => ?_)
    generalize WA.drew = W at *
    refine zt 0 (.bool false) rfl ?_ ?_
    ·(intro W hSw; obtain ⟨y,u,p0,r0,p1,r1,p2,r2⟩ := (FX W hSw).out; go_simp; try (exact wrap_b8 _); try (with_reducible rfl))
    try simp only [Act.put,sl2,sl0,sl1]
    refine zt 1 (.bool false) rfl ?_ ?_
    ·(intro W hSw; obtain ⟨y,u,p0,r0,p1,r1,p2,r2⟩ := (FX W hSw).out; go_simp; try (exact wrap_b8 _); try (with_reducible rfl))
    try simp only [Act.put,sl2,sl0,sl1]
    refine zu 2 rfl ?_
    try simp only [Act.put,sl2,sl0,sl1]
    refine zt 3 (.bool false) rfl ?_ ?_
    ·(intro W hSw; obtain ⟨y,u,p0,r0,p1,r1,p2,r2⟩ := (FX W hSw).out; go_simp; try (exact wrap_b8 _); try (with_reducible rfl))
    try simp only [Act.put,sl2,sl0,sl1]
    refine zt 4 (.bool false) rfl ?_ ?_
    ·(intro W hSw; obtain ⟨y,u,p0,r0,p1,r1,p2,r2⟩ := (FX W hSw).out; go_simp; try (exact wrap_b8 _); try (with_reducible rfl))
    try simp only [Act.put,sl2,sl0,sl1]
    refine zu 5 rfl ?_
    try simp only [Act.put,sl2,sl0,sl1]
    refine zu 6 rfl ?_
    try simp only [Act.put,sl2,sl0,sl1]
    refine zu 7 rfl ?_
    try simp only [Act.put,sl2,sl0,sl1]
    refine zu 8 rfl ?_
    try simp only [Act.put,sl2,sl0,sl1]
    refine zu 9 rfl ?_
    try simp only [Act.put,sl2,sl0,sl1]
    refine zu 10 rfl ?_
    try simp only [Act.put,sl2,sl0,sl1]
    refine zu 11 rfl ?_
    try simp only [Act.put,sl2,sl0,sl1]
    refine zu 12 rfl ?_
    try simp only [Act.put,sl2,sl0,sl1]
    refine zu 13 rfl ?_
    try simp only [Act.put,sl2,sl0,sl1]
    refine zu 14 rfl ?_
    try simp only [Act.put,sl2,sl0,sl1]
    refine zu 15 rfl ?_
    try simp only [Act.put,sl2,sl0,sl1]
    refine zu 16 rfl ?_
    try simp only [Act.put,sl2,sl0,sl1]
    refine zu 17 rfl ?_
    try simp only [Act.put,sl2,sl0,sl1]
    refine zt 18 (.bool false) rfl ?_ ?_
    ·(intro W hSw; obtain ⟨y,u,p0,r0,p1,r1,p2,r2⟩ := (FX W hSw).out; go_simp; try (exact wrap_b8 _); try (with_reducible rfl))
    try simp only [Act.put,sl2,sl0,sl1]
    refine zt 19 (.bool false) rfl ?_ ?_
    ·(intro W hSw; obtain ⟨y,u,p0,r0,p1,r1,p2,r2⟩ := (FX W hSw).out; go_simp; try (exact wrap_b8 _); try (with_reducible rfl))
    try simp only [Act.put,sl2,sl0,sl1]
    refine wpAnyH_done (by kernel_rfl) ?_ _
    have HBn := hid (HB.out.trans (hS.mono HB.out.size))
    have HXn := hid (HX.out.below hS HX.out.lt)
    have HYn := hid (HY.out.below hS HY.out.lt)
    clear hS FX
    go_wp2
    go_roundw
    case rel => exact ⟨i + 1,_,hlt,by go_num,rfl,hid (by rw [HSN.out,← Bool.and_assoc,← HK.out]; rfl),HBn,HXn,HYn⟩
    case measure => simp [intOf]; omega
   | true =>
    cases bA with
    | false =>
     go_upto_region 32 with fail
     replace hS := hS.drew
     refine wp_region_held_drew (S := fun W => Below wr.heap.size wr W) (by kernel_rfl) hS (fun _ => ?_)
     generalize WA.drew = W at *
     refine zt 0 (.bool true) rfl ?_ ?_
     ·(intro W hSw; obtain ⟨y,u,p0,r0,p1,r1,p2,r2⟩ := (FX W hSw).out; go_simp; try (exact wrap_b8 _); try (with_reducible rfl))
     try simp only [Act.put,sl2,sl0,sl1]
     refine zt 1 (.bool true) rfl ?_ ?_
     ·(intro W hSw; obtain ⟨y,u,p0,r0,p1,r1,p2,r2⟩ := (FX W hSw).out; go_simp; try (exact wrap_b8 _); try (with_reducible rfl))
     try simp only [Act.put,sl2,sl0,sl1]
     refine zt 2 (.bool false) rfl ?_ ?_
     ·(intro W hSw; obtain ⟨y,u,p0,r0,p1,r1,p2,r2⟩ := (FX W hSw).out; go_simp; try (exact wrap_b8 _); try (with_reducible rfl))
     try simp only [Act.put,sl2,sl0,sl1]
     refine zt 3 (.bool false) rfl ?_ ?_
     ·(intro W hSw; obtain ⟨y,u,p0,r0,p1,r1,p2,r2⟩ := (FX W hSw).out; go_simp; try (exact wrap_b8 _); try (with_reducible rfl))
     try simp only [Act.put,sl2,sl0,sl1]
     refine zt 4 (.bool false) rfl ?_ ?_
     ·(intro W hSw; obtain ⟨y,u,p0,r0,p1,r1,p2,r2⟩ := (FX W hSw).out; go_simp; try (exact wrap_b8 _); try (with_reducible rfl))
     try simp only [Act.put,sl2,sl0,sl1]
     refine zu 5 rfl ?_
     try simp only [Act.put,sl2,sl0,sl1]
     refine zu 6 rfl ?_
     try simp only [Act.put,sl2,sl0,sl1]
     refine zu 7 rfl ?_
     try simp only [Act.put,sl2,sl0,sl1]
     refine zu 8 rfl ?_
     try simp only [Act.put,sl2,sl0,sl1]
     refine zu 9 rfl ?_
     try simp only [Act.put,sl2,sl0,sl1]
     refine zu 10 rfl ?_
     try simp only [Act.put,sl2,sl0,sl1]
     refine zu 11 rfl ?_
     try simp only [Act.put,sl2,sl0,sl1]
     refine zu 12 rfl ?_
     try simp only [Act.put,sl2,sl0,sl1]
     refine zu 13 rfl ?_
     try simp only [Act.put,sl2,sl0,sl1]
     refine zu 14 rfl ?_
     try simp only [Act.put,sl2,sl0,sl1]
     refine zu 15 rfl ?_
     try simp only [Act.put,sl2,sl0,sl1]
     refine zu 16 rfl ?_
     try simp only [Act.put,sl2,sl0,sl1]
     refine zu 17 rfl ?_
     try simp only [Act.put,sl2,sl0,sl1]
     refine zt 18 (.bool false) rfl ?_ ?_
     ·(intro W hSw; obtain ⟨y,u,p0,r0,p1,r1,p2,r2⟩ := (FX W hSw).out; go_simp; try (exact wrap_b8 _); try (with_reducible rfl))
     try simp only [Act.put,sl2,sl0,sl1]
     refine zt 19 (.bool false) rfl ?_ ?_
     ·(intro W hSw; obtain ⟨y,u,p0,r0,p1,r1,p2,r2⟩ := (FX W hSw).out; go_simp; try (exact wrap_b8 _); try (with_reducible rfl))
     try simp only [Act.put,sl2,sl0,sl1]
     refine wpAnyH_done (by kernel_rfl) ?_ _
     have HBn := hid (HB.out.trans (hS.mono HB.out.size))
     have HXn := hid (HX.out.below hS HX.out.lt)
     have HYn := hid (HY.out.below hS HY.out.lt)
     clear hS FX
     go_wp2
     go_roundw
     case rel => exact ⟨i + 1,_,hlt,by go_num,rfl,hid (by rw [HSN.out,← Bool.and_assoc,← HK.out]; rfl),HBn,HXn,HYn⟩
     case measure => simp [intOf]; omega
    | true =>
     go_upto_region 32 with fail
     replace hS := hS.drew
     refine wp_region_held_drew (S := fun W => Below wr.heap.size wr W) (by kernel_rfl) hS (fun _ => ?_)
     generalize WA.drew = W at *
     refine zt 0 (.bool true) rfl ?_ ?_
     ·(intro W hSw; obtain ⟨y,u,p0,r0,p1,r1,p2,r2⟩ := (FX W hSw).out; go_simp; try (exact wrap_b8 _); try (with_reducible rfl))
     try simp only [Act.put,sl2,sl0,sl1]
     refine zt 1 (.bool true) rfl ?_ ?_
     ·(intro W hSw; obtain ⟨y,u,p0,r0,p1,r1,p2,r2⟩ := (FX W hSw).out; go_simp; try (exact wrap_b8 _); try (with_reducible rfl))
     try simp only [Act.put,sl2,sl0,sl1]
     refine zt 2 (.bool true) rfl ?_ ?_
     ·(intro W hSw; obtain ⟨y,u,p0,r0,p1,r1,p2,r2⟩ := (FX W hSw).out; go_simp; try (exact wrap_b8 _); try (with_reducible rfl))
     try simp only [Act.put,sl2,sl0,sl1]
     refine zt 3 (.bool true) rfl ?_ ?_
     ·(intro W hSw; obtain ⟨y,u,p0,r0,p1,r1,p2,r2⟩ := (FX W hSw).out; go_simp; try (exact wrap_b8 _); try (with_reducible rfl))
     try simp only [Act.put,sl2,sl0,sl1]
     refine zt 4 (.bool true) rfl ?_ ?_
     ·(intro W hSw; obtain ⟨y,u,p0,r0,p1,r1,p2,r2⟩ := (FX W hSw).out; go_simp; try (exact wrap_b8 _); try (with_reducible rfl))
     try simp only [Act.put,sl2,sl0,sl1]
     refine zt 5 (.pointer (some ⟨w.heap.size,5,none⟩)) rfl ?_ ?_
     ·(intro W hSw; obtain ⟨y,u,p0,r0,p1,r1,p2,r2⟩ := (FX W hSw).out; go_simp; try (exact wrap_b8 _); try (with_reducible rfl))
     try simp only [Act.put,sl2,sl0,sl1]
     refine zt 6 (.slice (some ⟨agblk,agoff,none⟩) agn agc) rfl ?_ ?_
     ·(intro W hSw; obtain ⟨y,u,p0,r0,p1,r1,p2,r2⟩ := (FX W hSw).out; go_simp; try (exact wrap_b8 _); try (with_reducible rfl))
     try simp only [Act.put,sl2,sl0,sl1]
     refine zt 7 (.int .i64 i) rfl ?_ ?_
     ·(intro W hSw; obtain ⟨y,u,p0,r0,p1,r1,p2,r2⟩ := (FX W hSw).out; go_simp; try (exact wrap_b8 _); try (with_reducible rfl))
     try simp only [Act.put,sl2,sl0,sl1]
     refine zt 8 (.pointer (some ⟨agblk,agoff + i * 3,none⟩)) rfl ?_ ?_
     ·(intro W hSw; obtain ⟨y,u,p0,r0,p1,r1,p2,r2⟩ := (FX W hSw).out; go_simp; try (exact wrap_b8 _); try (with_reducible rfl))
     try simp only [Act.put,sl2,sl0,sl1]
     refine zt 9 (.pointer (some ⟨agblk,agoff + i * 3,none⟩)) rfl ?_ ?_
     ·(intro W hSw; obtain ⟨y,u,p0,r0,p1,r1,p2,r2⟩ := (FX W hSw).out; go_simp; try (exact wrap_b8 _); try (with_reducible rfl))
     try simp only [Act.put,sl2,sl0,sl1]
     refine zt 10 (.agg #[.int .i64 as0,.bool ae1]) rfl ?_ ?_
     ·(intro W hSw; obtain ⟨y,u,p0,r0,p1,r1,p2,r2⟩ := (FX W hSw).out; go_simp; try (exact wrap_b8 _); try (with_reducible rfl))
     try simp only [Act.put,sl2,sl0,sl1]
     refine zt 11 (.pointer (some ⟨w.heap.size + 1,5,none⟩)) rfl ?_ ?_
     ·(intro W hSw; obtain ⟨y,u,p0,r0,p1,r1,p2,r2⟩ := (FX W hSw).out; go_simp; try (exact wrap_b8 _); try (with_reducible rfl))
     try simp only [Act.put,sl2,sl0,sl1]
     refine zt 12 (.slice (some ⟨bgblk,bgoff,none⟩) agn bgc) rfl ?_ ?_
     ·(intro W hSw; obtain ⟨y,u,p0,r0,p1,r1,p2,r2⟩ := (FX W hSw).out; go_simp; try (exact wrap_b8 _); try (with_reducible rfl))
     try simp only [Act.put,sl2,sl0,sl1]
     refine zt 13 (.int .i64 i) rfl ?_ ?_
     ·(intro W hSw; obtain ⟨y,u,p0,r0,p1,r1,p2,r2⟩ := (FX W hSw).out; go_simp; try (exact wrap_b8 _); try (with_reducible rfl))
     try simp only [Act.put,sl2,sl0,sl1]
     refine zt 14 (.pointer (some ⟨bgblk,bgoff + i * 3,none⟩)) rfl ?_ ?_
     ·(intro W hSw; obtain ⟨y,u,p0,r0,p1,r1,p2,r2⟩ := (FX W hSw).out; go_simp; try (exact wrap_b8 _); try (with_reducible rfl))
     try simp only [Act.put,sl2,sl0,sl1]
     refine zt 15 (.pointer (some ⟨bgblk,bgoff + i * 3,none⟩)) rfl ?_ ?_
     ·(intro W hSw; obtain ⟨y,u,p0,r0,p1,r1,p2,r2⟩ := (FX W hSw).out; go_simp; try (exact wrap_b8 _); try (with_reducible rfl))
     try simp only [Act.put,sl2,sl0,sl1]
     refine zt 16 (.agg #[.int .i64 bs0,.bool be1]) rfl ?_ ?_
     ·(intro W hSw; obtain ⟨y,u,p0,r0,p1,r1,p2,r2⟩ := (FX W hSw).out; go_simp; try (exact wrap_b8 _); try (with_reducible rfl))
     try simp only [Act.put,sl2,sl0,sl1]
     refine zt 17 (.bool q) rfl ?_ ?_
     ·(intro W hSw; obtain ⟨y,u,p0,r0,p1,r1,p2,r2⟩ := (FX W hSw).out; go_simp; try (exact wrap_b8 _); try (with_reducible rfl))
     try simp only [Act.put,sl2,sl0,sl1]
     refine zt 18 (.bool q) rfl ?_ ?_
     ·(intro W hSw; obtain ⟨y,u,p0,r0,p1,r1,p2,r2⟩ := (FX W hSw).out; go_simp; try (exact wrap_b8 _); try (with_reducible rfl))
     try simp only [Act.put,sl2,sl0,sl1]
     refine zt 19 (.bool q) rfl ?_ ?_
     ·(intro W hSw; obtain ⟨y,u,p0,r0,p1,r1,p2,r2⟩ := (FX W hSw).out; go_simp; try (exact wrap_b8 _); try (with_reducible rfl))
     try simp only [Act.put,sl2,sl0,sl1]
     refine wpAnyH_done (by kernel_rfl) ?_ _
     have HBn := hid (HB.out.trans (hS.mono HB.out.size))
     have HXn := hid (HX.out.below hS HX.out.lt)
     have HYn := hid (HY.out.below hS HY.out.lt)
     clear hS FX
     go_wp2
     go_roundw
     case rel => exact ⟨i + 1,_,hlt,by go_num,rfl,hid (by rw [HSN.out,← Bool.and_assoc,← HK.out]; rfl),HBn,HXn,HYn⟩
     case measure => simp [intOf]; omega
 have hie : agn = i := by omega
 subst hie
 have HB6 := HB
 have HX6 := HX
 have HY6 := HY
 obtain ⟨ok5,hok5⟩ : ∃ b,b = ok := ⟨_,rfl⟩
 have HK6 := hid (show ok5 = (ok4 && (List.range agn).all Qg) by rw [hok5]; exact HK.out)
 subst hok5
 clear HB HX HY HK hlt hi
 have y6 := HX6.out.at (k := 6) (v := .slice axp axn axc) rfl
 have nax62 := Nax62.out
 go_wp2
 go_loopw [5,17] (fun vo vi wr => ∃ (i : Nat) (ok : Bool),i ≤ axn ∧ vi = .int .i64 i ∧ vo = .bool ok ∧ Hid (ok = (ok5 && (List.range i).all Qx)) ∧ Hid (Below w.heap.size w wr) ∧ Hid (CA w.heap.size #[.slice atp atn atc,.slice aimp aimn aimc,.slice afp afn afc,.slice atbp atbn atbc,.slice amp amn amc,.slice agp agn agc,.slice axp axn axc,.int .i64 ast,.slice aep aen aec,.slice adp adn adc,.bool acnt] 32 wr) ∧ Hid (CA (w.heap.size + 1) #[.slice btp atn btc,.slice bimp aimn bimc,.slice bfp afn bfc,.slice btbp atbn btbc,.slice bmp amn bmc,.slice bgp agn bgc,.slice bxp axn bxc,.int .i64 ast,.slice bep aen bec,.slice bdp adn bdc,.bool acnt] 32 wr)) (fun _ vi _ => axn - (intOf vi).toNat)
 case atStart => exact ⟨0,ok5,Nat.zero_le _,rfl,rfl,by simp [Hid],HB6,HX6,HY6⟩
 clear y6
 obtain ⟨i,ok,hi,rfl,rfl,HK,HB,HX,HY⟩ := hrel
 have y6 := HX.out.at (k := 6) (v := .slice axp axn axc) rfl
 by_cases hlt : i < axn
 ·as_aux_lemma =>
   obtain ⟨z0,z1,z2⟩ := HaxX.out i hlt
   obtain ⟨v0,v1,v2⟩ := HbxX.out i hlt
   obtain ⟨hpa,hga⟩ := HaxG.out (by omega)
   obtain ⟨hpb,hgb⟩ := HbxG.out (by omega)
   subst hpa hpb
   have x0 := (HB.out.cell (p := ⟨axblk,axoff + i * 3,none⟩) hga).trans z0
   have w0 := (HB.out.cell (p := ⟨bxblk,bxoff + i * 3,none⟩) hgb).trans v0
   have x1 := (HB.out.cell (p := ⟨axblk,axoff + i * 3 + 1,none⟩) hga).trans z1
   have w1 := (HB.out.cell (p := ⟨bxblk,bxoff + i * 3 + 1,none⟩) hgb).trans v1
   have x2 := (HB.out.cell (p := ⟨axblk,axoff + i * 3 + 2,none⟩) hga).trans z2
   have w2 := (HB.out.cell (p := ⟨bxblk,bxoff + i * 3 + 2,none⟩) hgb).trans v2
   have hga2 := Nat.lt_of_lt_of_le hga HB.out.size
   have hgb2 := Nat.lt_of_lt_of_le hgb HB.out.size
   clear z0 v0 z1 v1 z2 v2 hga hgb
   have HSN := hid (show (List.range (i + 1)).all Qx = ((List.range i).all Qx && (((axz0 i == bxz0 i) && (axt1 i == bxt1 i) && (axt2 i == bxt2 i)))) by rw [range_all_snoc]; rw [HQx.out])
   generalize axz0 i = ay0 at *
   generalize axt1 i = as1 at *
   generalize axt2 i = as2 at *
   generalize bxz0 i = by0 at *
   generalize bxt1 i = bs1 at *
   generalize bxt2 i = bs2 at *
   have FX := fun W (h : Below wr.heap.size wr W) => hid (And.intro ((HX.out.below h HX.out.lt).at (k := 6) (v := .slice (some ⟨axblk,axoff,none⟩) axn axc) rfl) (And.intro ((HY.out.below h HY.out.lt).at (k := 6) (v := .slice (some ⟨bxblk,bxoff,none⟩) axn bxc) rfl) (And.intro ((h.cell (p := ⟨axblk,axoff + i * 3,none⟩) hga2).trans x0) (And.intro ((h.cell (p := ⟨bxblk,bxoff + i * 3,none⟩) hgb2).trans w0) (And.intro ((h.cell (p := ⟨axblk,axoff + i * 3 + 1,none⟩) hga2).trans x1) (And.intro ((h.cell (p := ⟨bxblk,bxoff + i * 3 + 1,none⟩) hgb2).trans w1) (And.intro ((h.cell (p := ⟨axblk,axoff + i * 3 + 2,none⟩) hga2).trans x2) ((h.cell (p := ⟨bxblk,bxoff + i * 3 + 2,none⟩) hgb2).trans w2))))))))
   clear x0 w0 x1 w1 x2 w2 hga2 hgb2
   have hq := fun W => eql_exp ay0 as1 as2 by0 bs1 bs2 W
   obtain ⟨q,hq2⟩ : ∃ q,q = ((ay0 == by0) && (as1 == bs1) && (as2 == bs2)) := ⟨_,rfl⟩
   rw [← hq2] at HSN hq
   clear hq2
   cases ok with
   | true =>
    go_upto_region 36 with fail
    clear y6
    have hS : Below wr.heap.size wr wr.drew := (Below.refl _ _).drew
    refine wp_region_held_drew (S := fun W => Below wr.heap.size wr W) (by kernel_rfl) hS (fun _ => ?_)
    generalize wr.drew = W at *
    refine zt 0 (.bool true) rfl ?_ ?_
    ·(intro W hSw; obtain ⟨y,u,p0,r0,p1,r1,p2,r2⟩ := (FX W hSw).out; go_simp; try (exact wrap_b8 _); try (with_reducible rfl))
    try simp only [Act.put,sl2,sl0,sl1]
    refine zt 1 (.bool true) rfl ?_ ?_
    ·(intro W hSw; obtain ⟨y,u,p0,r0,p1,r1,p2,r2⟩ := (FX W hSw).out; go_simp; try (exact wrap_b8 _); try (with_reducible rfl))
    try simp only [Act.put,sl2,sl0,sl1]
    refine zt 2 (.pointer (some ⟨w.heap.size,6,none⟩)) rfl ?_ ?_
    ·(intro W hSw; obtain ⟨y,u,p0,r0,p1,r1,p2,r2⟩ := (FX W hSw).out; go_simp; try (exact wrap_b8 _); try (with_reducible rfl))
    try simp only [Act.put,sl2,sl0,sl1]
    refine zt 3 (.slice (some ⟨axblk,axoff,none⟩) axn axc) rfl ?_ ?_
    ·(intro W hSw; obtain ⟨y,u,p0,r0,p1,r1,p2,r2⟩ := (FX W hSw).out; go_simp; try (exact wrap_b8 _); try (with_reducible rfl))
    try simp only [Act.put,sl2,sl0,sl1]
    refine zt 4 (.int .i64 i) rfl ?_ ?_
    ·(intro W hSw; obtain ⟨y,u,p0,r0,p1,r1,p2,r2⟩ := (FX W hSw).out; go_simp; try (exact wrap_b8 _); try (with_reducible rfl))
    try simp only [Act.put,sl2,sl0,sl1]
    refine zt 5 (.pointer (some ⟨axblk,axoff + i * 3,none⟩)) rfl ?_ ?_
    ·(intro W hSw; obtain ⟨y,u,p0,r0,p1,r1,p2,r2⟩ := (FX W hSw).out; go_simp; try (exact wrap_b8 _); try (with_reducible rfl))
    try simp only [Act.put,sl2,sl0,sl1]
    refine zt 6 (.agg #[.string ay0,.int .i64 as1,.int .i64 as2]) rfl ?_ ?_
    ·(intro W hSw; obtain ⟨y,u,p0,r0,p1,r1,p2,r2⟩ := (FX W hSw).out; go_simp; try (exact wrap_b8 _); try (with_reducible rfl))
    try simp only [Act.put,sl2,sl0,sl1]
    refine zt 7 (.pointer (some ⟨w.heap.size + 1,6,none⟩)) rfl ?_ ?_
    ·(intro W hSw; obtain ⟨y,u,p0,r0,p1,r1,p2,r2⟩ := (FX W hSw).out; go_simp; try (exact wrap_b8 _); try (with_reducible rfl))
    try simp only [Act.put,sl2,sl0,sl1]
    refine zt 8 (.slice (some ⟨bxblk,bxoff,none⟩) axn bxc) rfl ?_ ?_
    ·(intro W hSw; obtain ⟨y,u,p0,r0,p1,r1,p2,r2⟩ := (FX W hSw).out; go_simp; try (exact wrap_b8 _); try (with_reducible rfl))
    try simp only [Act.put,sl2,sl0,sl1]
    refine zt 9 (.int .i64 i) rfl ?_ ?_
    ·(intro W hSw; obtain ⟨y,u,p0,r0,p1,r1,p2,r2⟩ := (FX W hSw).out; go_simp; try (exact wrap_b8 _); try (with_reducible rfl))
    try simp only [Act.put,sl2,sl0,sl1]
    refine zt 10 (.pointer (some ⟨bxblk,bxoff + i * 3,none⟩)) rfl ?_ ?_
    ·(intro W hSw; obtain ⟨y,u,p0,r0,p1,r1,p2,r2⟩ := (FX W hSw).out; go_simp; try (exact wrap_b8 _); try (with_reducible rfl))
    try simp only [Act.put,sl2,sl0,sl1]
    refine zt 11 (.agg #[.string by0,.int .i64 bs1,.int .i64 bs2]) rfl ?_ ?_
    ·(intro W hSw; obtain ⟨y,u,p0,r0,p1,r1,p2,r2⟩ := (FX W hSw).out; go_simp; try (exact wrap_b8 _); try (with_reducible rfl))
    try simp only [Act.put,sl2,sl0,sl1]
    refine zt 12 (.bool q) rfl ?_ ?_
    ·(intro W hSw; obtain ⟨y,u,p0,r0,p1,r1,p2,r2⟩ := (FX W hSw).out; go_simp; try (exact wrap_b8 _); try (with_reducible rfl))
    try simp only [Act.put,sl2,sl0,sl1]
    refine zt 13 (.bool q) rfl ?_ ?_
    ·(intro W hSw; obtain ⟨y,u,p0,r0,p1,r1,p2,r2⟩ := (FX W hSw).out; go_simp; try (exact wrap_b8 _); try (with_reducible rfl))
    try simp only [Act.put,sl2,sl0,sl1]
    refine zt 14 (.bool q) rfl ?_ ?_
    ·(intro W hSw; obtain ⟨y,u,p0,r0,p1,r1,p2,r2⟩ := (FX W hSw).out; go_simp; try (exact wrap_b8 _); try (with_reducible rfl))
    try simp only [Act.put,sl2,sl0,sl1]
    refine wpAnyH_done (by kernel_rfl) ?_ _
    have HBn := hid (HB.out.trans (hS.mono HB.out.size))
    have HXn := hid (HX.out.below hS HX.out.lt)
    have HYn := hid (HY.out.below hS HY.out.lt)
    clear hS FX
    go_wp2
    go_roundw
    case rel => exact ⟨i + 1,_,hlt,by go_num,rfl,hid (by rw [HSN.out,← Bool.and_assoc,← HK.out]; rfl),HBn,HXn,HYn⟩
    case measure => simp [intOf]; omega
   | false =>
    go_upto_region 36 with fail
    clear y6
    have hS : Below wr.heap.size wr wr.drew := (Below.refl _ _).drew
    refine wp_region_held_drew (S := fun W => Below wr.heap.size wr W) (by kernel_rfl) hS (fun _ => ?_)
    generalize wr.drew = W at *
    refine zt 0 (.bool false) rfl ?_ ?_
    ·(intro W hSw; skip; go_simp; try (exact wrap_b8 _); try (with_reducible rfl))
    try simp only [Act.put,sl2,sl0,sl1]
    refine zt 1 (.bool false) rfl ?_ ?_
    ·(intro W hSw; skip; go_simp; try (exact wrap_b8 _); try (with_reducible rfl))
    try simp only [Act.put,sl2,sl0,sl1]
    refine zu 2 rfl ?_
    try simp only [Act.put,sl2,sl0,sl1]
    refine zu 3 rfl ?_
    try simp only [Act.put,sl2,sl0,sl1]
    refine zu 4 rfl ?_
    try simp only [Act.put,sl2,sl0,sl1]
    refine zu 5 rfl ?_
    try simp only [Act.put,sl2,sl0,sl1]
    refine zu 6 rfl ?_
    try simp only [Act.put,sl2,sl0,sl1]
    refine zu 7 rfl ?_
    try simp only [Act.put,sl2,sl0,sl1]
    refine zu 8 rfl ?_
    try simp only [Act.put,sl2,sl0,sl1]
    refine zu 9 rfl ?_
    try simp only [Act.put,sl2,sl0,sl1]
    refine zu 10 rfl ?_
    try simp only [Act.put,sl2,sl0,sl1]
    refine zu 11 rfl ?_
    try simp only [Act.put,sl2,sl0,sl1]
    refine zu 12 rfl ?_
    try simp only [Act.put,sl2,sl0,sl1]
    refine zt 13 (.bool false) rfl ?_ ?_
    ·(intro W hSw; skip; go_simp; try (exact wrap_b8 _); try (with_reducible rfl))
    try simp only [Act.put,sl2,sl0,sl1]
    refine zt 14 (.bool false) rfl ?_ ?_
    ·(intro W hSw; skip; go_simp; try (exact wrap_b8 _); try (with_reducible rfl))
    try simp only [Act.put,sl2,sl0,sl1]
    refine wpAnyH_done (by kernel_rfl) ?_ _
    have HBn := hid (HB.out.trans (hS.mono HB.out.size))
    have HXn := hid (HX.out.below hS HX.out.lt)
    have HYn := hid (HY.out.below hS HY.out.lt)
    clear hS FX
    go_wp2
    go_roundw
    case rel => exact ⟨i + 1,_,hlt,by go_num,rfl,hid (by rw [HSN.out,← Bool.and_assoc,← HK.out]; rfl),HBn,HXn,HYn⟩
    case measure => simp [intOf]; omega
 have hie : axn = i := by omega
 subst hie
 have HB7 := HB
 have HX7 := HX
 have HY7 := HY
 obtain ⟨ok6,hok6⟩ : ∃ b,b = ok := ⟨_,rfl⟩
 have HK7 := hid (show ok6 = (ok5 && (List.range axn).all Qx) by rw [hok6]; exact HK.out)
 subst hok6
 clear HB HX HY HK hlt hi
 have HRR := hid (show R = (ok6 && sb) by rw [HR2.out,HK7.out,HK6.out,HK5.out,HK4.out,HK3.out,HK2.out,HK1.out]; simp only [Bool.true_and,Bool.and_assoc])
 have HS9 := fun W (h : Below w.heap.size w W) => hid (HSG.out (by trivial) (by trivial) (by trivial) (by trivial) (by trivial) (by trivial) (by trivial) (by trivial) (by trivial) W h)
 cases ok6 with
 | false =>
  go_wp2
  go_ret
  exact ⟨by rw [HRR.out]; rfl,HB7.out⟩
 | true =>
  have y0 := HX7.out.at (k := 0) (v := .slice atp atn atc) rfl
  have u0_ := HY7.out.at (k := 0) (v := .slice btp atn btc) rfl
  have y1 := HX7.out.at (k := 1) (v := .slice aimp aimn aimc) rfl
  have u1_ := HY7.out.at (k := 1) (v := .slice bimp aimn bimc) rfl
  have y2 := HX7.out.at (k := 2) (v := .slice afp afn afc) rfl
  have u2_ := HY7.out.at (k := 2) (v := .slice bfp afn bfc) rfl
  have y3 := HX7.out.at (k := 3) (v := .slice atbp atbn atbc) rfl
  have u3_ := HY7.out.at (k := 3) (v := .slice btbp atbn btbc) rfl
  have y4 := HX7.out.at (k := 4) (v := .slice amp amn amc) rfl
  have u4_ := HY7.out.at (k := 4) (v := .slice bmp amn bmc) rfl
  have y5 := HX7.out.at (k := 5) (v := .slice agp agn agc) rfl
  have u5_ := HY7.out.at (k := 5) (v := .slice bgp agn bgc) rfl
  have y6 := HX7.out.at (k := 6) (v := .slice axp axn axc) rfl
  have u6_ := HY7.out.at (k := 6) (v := .slice bxp axn bxc) rfl
  have y7 := HX7.out.at (k := 7) (v := .int .i64 ast) rfl
  have u7_ := HY7.out.at (k := 7) (v := .int .i64 ast) rfl
  have y8 := HX7.out.at (k := 8) (v := .slice aep aen aec) rfl
  have u8_ := HY7.out.at (k := 8) (v := .slice bep aen bec) rfl
  have y9 := HX7.out.at (k := 9) (v := .slice adp adn adc) rfl
  have u9_ := HY7.out.at (k := 9) (v := .slice bdp adn bdc) rfl
  have y10 := HX7.out.at (k := 10) (v := .bool acnt) rfl
  have u10_ := HY7.out.at (k := 10) (v := .bool acnt) rfl
  go_wp2_with (go_at_call 94; (with_reducible refine (HS9 _ HB7.out).out.mono ?_); rintro e w9 ⟨rfl,hb⟩; have HB9 := hid (HB7.out.trans (hb.mono HB7.out.size)); clear hb)
  go_ret
  exact ⟨by rw [HRR.out]; rfl,HB9.out⟩
end Go.Proofs.YtjgeedgphcjhoaaGreat
