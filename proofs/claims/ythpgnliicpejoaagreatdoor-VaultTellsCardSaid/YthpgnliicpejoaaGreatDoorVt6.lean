/- One text of Shelf,RecA,RecRes,DiskA,Region (mk/pack.py). -/
import Derived.Shelf.Strings.Builder1
import Derived.Shelf.Strings.Builder2
import Derived.Shelf.Small.Strs
import Derived.Shelf.Strings.BuilderF
import Derived.Shelf.Strings.BuilderK
import Derived.Shelf.Strings.Search1
import Derived.Shelf.Strings.Search2
import Derived.Shelf.Strings.Search3
import Derived.Shelf.LaysM
import Derived.Shelf.Strings.Shaped
import Derived.Shelf.Strings.Prefix
import Derived.Shelf.Bits.Mul64
import Derived.Shelf.Strings.Repeat
import Derived.Shelf.Unicode.DecodeSlow
import Derived.Shelf.Slices.Equal
import Derived.Ground.Names2Prog
import Derived.Shelf.Slices.Clone
import Derived.Shelf.Slices.Empties2
import Derived.Test.YthpgnliicpejoaaGreatDoorProg
import Derived.Test.YthpgnliicpejoaaGreatDoorVt5
import Derived.Deep.AppendLies
import Derived.Test.YthpgnliicpejoaaGreatDoorChecked
import Derived.Laws.ResultCell
import Derived.WalkKit
import Derived.Deep.RegionHeld3
/-
 DERIVED: THE SHELF's CONTRACTS AT THIS DUMP,IN PLAIN WORDS (tools/lay-plain.mjs out of 'TryzShelf.lean',which tools/lay-shelf.mjs wrote): THE SAME DECLARATIONS UNDER THE SAME NAMES: 'import','namespace','open','def','theorem' AND NOTHING ELSE: no command of the shelf's: FOR A HAND-IN. Each laying: the table of numbers ('.._ren') and one theorem,a field a fact of the dump's own or the kernel's comparison;each contract: ONE APPLICATION.
-/
namespace Go.Proofs
open Go.Shelf
def Tryz.lays170_ren:Go.Shelf.Ren:=⟨fun|170=>71|n=>n,fun|70=>130|3=>3|0=>0|72=>132|37=>110|5=>5|n=>n,fun|n=>n⟩
theorem Tryz.lays170:Go.Proofs.Lays.n170 Tryz.prog Tryz.lays170_ren:={
 mixed:=by kernel_rfl
 f170:=Tryz.func71.trans (congrArg some (by kernel_rfl))
 t0:=Tryz.underlying0
 a0:=Tryz.isAgg0
 z0:=Tryz.sizeOf0
 v0:=Tryz.zeroValue0
 t3:=Tryz.underlying3
 a3:=Tryz.isAgg3
 z3:=Tryz.sizeOf3
 v3:=Tryz.zeroValue3
 t37:=Tryz.underlying110
 a37:=Tryz.isAgg110
 z37:=Tryz.sizeOf110
 v37:=Tryz.zeroValue110
 t70:=Tryz.underlying130
 a70:=Tryz.isAgg130
 z70:=Tryz.sizeOf130
 v70:=Tryz.zeroValue130
 t72:=Tryz.underlying132
 a72:=Tryz.isAgg132
 z72:=Tryz.sizeOf132
 v72:=Tryz.zeroValue132 }
open Go.RowKit in
/-- (*strings.Builder).Len: "Len returns the number of accumulated bytes; b.Len() == len(b.String()).": the world is as it was. (LAID: no walk: one application.) -/
theorem Tryz.Builder_Len (B b:Nat) (bs:List Value) (w:World) (h:Lib.IsBuilder 132 5 B b bs w) :
  Calls Tryz.prog 71 #[.pointer (some ⟨b,0,none⟩)] w fun e w'=>e = .returned (.int .i64 bs.length)∧w'=w:=Any.Builder_Len Tryz.lays170 B b bs w h
def Tryz.lays169_ren:Go.Shelf.Ren:=⟨fun|169=>74|n=>n,fun|70=>130|9=>9|0=>0|72=>132|37=>110|127=>179|3=>3|5=>5|n=>n,fun|n=>n⟩
theorem Tryz.lays169:Go.Proofs.Lays.n169 Tryz.prog Tryz.lays169_ren:={
 mixed:=by kernel_rfl
 f169:=Tryz.func74.trans (congrArg some (by kernel_rfl))
 t0:=Tryz.underlying0
 a0:=Tryz.isAgg0
 z0:=Tryz.sizeOf0
 v0:=Tryz.zeroValue0
 t3:=Tryz.underlying3
 a3:=Tryz.isAgg3
 z3:=Tryz.sizeOf3
 v3:=Tryz.zeroValue3
 t9:=Tryz.underlying9
 a9:=Tryz.isAgg9
 z9:=Tryz.sizeOf9
 v9:=Tryz.zeroValue9
 t37:=Tryz.underlying110
 a37:=Tryz.isAgg110
 z37:=Tryz.sizeOf110
 v37:=Tryz.zeroValue110
 t70:=Tryz.underlying130
 a70:=Tryz.isAgg130
 z70:=Tryz.sizeOf130
 v70:=Tryz.zeroValue130
 t72:=Tryz.underlying132
 a72:=Tryz.isAgg132
 z72:=Tryz.sizeOf132
 v72:=Tryz.zeroValue132
 t127:=Tryz.underlying179
 a127:=Tryz.isAgg179
 z127:=Tryz.sizeOf179
 v127:=Tryz.zeroValue179 }
theorem Tryz.Builder_Extra_169:Builder.Extra Tryz.prog Tryz.lays169_ren:={
 sizeBuilder:=by kernel_rfl
 liesBuilder:=by kernel_rfl
 t5:=Tryz.underlying5
 a5:=Tryz.isAgg5
 z5:=Tryz.sizeOf5
 v5:=Tryz.zeroValue5
 infoByte:=by kernel_rfl
 cellsByte:=by kernel_rfl
 sizeByte:=by kernel_rfl
 neB5:=by decide }
open Go.RowKit in
/-- (*strings.Builder).String: "String returns the accumulated string.": WHATEVER THE BUILDER HOLDS. (LAID: no walk: one application.) -/
theorem Tryz.Builder_String_any (B b:Nat) (l:List UInt8) (w:World) (h:Lib.IsBuilder 132 5 B b (Lib.byteCells l) w) (hBw:B≤w.heap.size) :
  Calls Tryz.prog 74 #[.pointer (some ⟨b,0,none⟩)] w fun e w'=>e = .returned (.string ⟨l.toArray⟩)∧Below B w w':=Any.Builder_String_any Tryz.lays169 Tryz.Builder_Extra_169 B b l w h hBw
def Tryz.lays106_ren:Go.Shelf.Ren:=⟨fun|106=>105|213=>132|265=>151|n=>n,fun|9=>9|3=>3|n=>n,fun|n=>n⟩
theorem Tryz.lays106:Go.Proofs.Lays.n106 Tryz.prog Tryz.lays106_ren:={
 mixed:=by kernel_rfl
 f106:=Tryz.func105.trans (congrArg some (by kernel_rfl))
 f213:=Tryz.func132.trans (congrArg some (by kernel_rfl))
 f265:=Tryz.func151.trans (congrArg some (by kernel_rfl))
 t3:=Tryz.underlying3
 a3:=Tryz.isAgg3
 z3:=Tryz.sizeOf3
 v3:=Tryz.zeroValue3
 t9:=Tryz.underlying9
 a9:=Tryz.isAgg9
 z9:=Tryz.sizeOf9
 v9:=Tryz.zeroValue9 }
open Go.RowKit in
/-- strings.Compare: "Compare returns an integer comparing two strings lexicographically. The result will be 0 if a == b, -1 if a < b, and +1 if a > b.": IT RETURNS 'Lib.compareBytes a b';the world is as it was. (LAID: no walk: one application.) -/
theorem Tryz.strings_Compare (a b:ByteArray) (w:World) :
  Calls Tryz.prog 105 #[.string a,.string b] w fun e w'=>e = .returned (.int .i64 (Lib.compareBytes a.data.toList b.data.toList))∧w'=w:=Any.strings_Compare Tryz.lays106 a b w
def Tryz.lays143_ren:Go.Shelf.Ren:=⟨fun|143=>162|219=>168|217=>169|225=>170|224=>171|267=>172|266=>173|314=>174|n=>n,fun|9=>9|3=>3|4=>4|5=>5|46=>178|146=>232|51=>231|n=>n,fun|1=>1|n=>n⟩
theorem Tryz.lays143:Go.Proofs.Lays.n143 Tryz.prog Tryz.lays143_ren:={
 mixed:=by kernel_rfl
 f143:=Tryz.func162.trans (congrArg some (by kernel_rfl))
 f217:=Tryz.func169.trans (congrArg some (by kernel_rfl))
 f219:=Tryz.func168.trans (congrArg some (by kernel_rfl))
 f224:=Tryz.func171.trans (congrArg some (by kernel_rfl))
 f225:=Tryz.func170.trans (congrArg some (by kernel_rfl))
 f266:=Tryz.func173.trans (congrArg some (by kernel_rfl))
 f267:=Tryz.func172.trans (congrArg some (by kernel_rfl))
 f314:=Tryz.func174.trans (congrArg some (by kernel_rfl))
 t3:=Tryz.underlying3
 a3:=Tryz.isAgg3
 z3:=Tryz.sizeOf3
 v3:=Tryz.zeroValue3
 t4:=Tryz.underlying4
 a4:=Tryz.isAgg4
 z4:=Tryz.sizeOf4
 v4:=Tryz.zeroValue4
 t5:=Tryz.underlying5
 a5:=Tryz.isAgg5
 z5:=Tryz.sizeOf5
 v5:=Tryz.zeroValue5
 t9:=Tryz.underlying9
 a9:=Tryz.isAgg9
 z9:=Tryz.sizeOf9
 v9:=Tryz.zeroValue9
 t46:=Tryz.underlying178
 a46:=Tryz.isAgg178
 z46:=Tryz.sizeOf178
 v46:=Tryz.zeroValue178
 t51:=Tryz.underlying231
 a51:=Tryz.isAgg231
 z51:=Tryz.sizeOf231
 v51:=Tryz.zeroValue231
 t146:=Tryz.underlying232
 a146:=Tryz.isAgg232
 z146:=Tryz.sizeOf232
 v146:=Tryz.zeroValue232
 g1:=by kernel_rfl }
open Go.RowKit Go.Lib in
/-- strings.Index: "Index returns the index of the first instance of substr in s, or -1 if substr is not present in s.": IT RETURNS 'Lib.index s substr';the world is as it was. (LAID: no walk: one application.) -/
theorem Tryz.strings_Index (s sub:ByteArray) (m:Int) (w:World) (hs:s.size<4294967281) (hm:w.cell? ⟨1,0,none⟩=some (.int .i64 m)) :
  Calls Tryz.prog 162 #[.string s,.string sub] w fun e w'=>e = .returned (.int .i64 (Lib.index s.data.toList sub.data.toList))∧w'=w:=Any.strings_Index Tryz.lays143 s sub m w hs hm
def Tryz.lays105_ren:Go.Shelf.Ren:=⟨fun|105=>117|212=>140|99=>141|165=>142|166=>72|170=>71|169=>74|263=>155|264=>156|206=>157|240=>108|241=>158|276=>135|277=>166|n=>n,fun|9=>9|3=>3|4=>4|20=>20|0=>0|46=>178|109=>220|5=>5|72=>132|76=>135|51=>231|146=>232|53=>234|148=>235|70=>130|37=>110|75=>81|127=>179|164=>156|80=>138|n=>n,fun|n=>n⟩
theorem Tryz.lays105:Go.Proofs.Lays.n105 Tryz.prog Tryz.lays105_ren:={
 mixed:=by kernel_rfl
 f99:=Tryz.func141.trans (congrArg some (by kernel_rfl))
 f105:=Tryz.func117.trans (congrArg some (by kernel_rfl))
 f165:=Tryz.func142.trans (congrArg some (by kernel_rfl))
 f166:=Tryz.func72.trans (congrArg some (by kernel_rfl))
 f169:=Tryz.func74.trans (congrArg some (by kernel_rfl))
 f170:=Tryz.func71.trans (congrArg some (by kernel_rfl))
 f206:=Tryz.func157.trans (congrArg some (by kernel_rfl))
 f212:=Tryz.func140.trans (congrArg some (by kernel_rfl))
 f240:=Tryz.func108.trans (congrArg some (by kernel_rfl))
 f241:=Tryz.func158.trans (congrArg some (by kernel_rfl))
 f263:=Tryz.func155.trans (congrArg some (by kernel_rfl))
 f264:=Tryz.func156.trans (congrArg some (by kernel_rfl))
 f276:=Tryz.func135.trans (congrArg some (by kernel_rfl))
 f277:=Tryz.func166.trans (congrArg some (by kernel_rfl))
 t0:=Tryz.underlying0
 a0:=Tryz.isAgg0
 z0:=Tryz.sizeOf0
 v0:=Tryz.zeroValue0
 t3:=Tryz.underlying3
 a3:=Tryz.isAgg3
 z3:=Tryz.sizeOf3
 v3:=Tryz.zeroValue3
 t4:=Tryz.underlying4
 a4:=Tryz.isAgg4
 z4:=Tryz.sizeOf4
 v4:=Tryz.zeroValue4
 t5:=Tryz.underlying5
 a5:=Tryz.isAgg5
 z5:=Tryz.sizeOf5
 v5:=Tryz.zeroValue5
 t9:=Tryz.underlying9
 a9:=Tryz.isAgg9
 z9:=Tryz.sizeOf9
 v9:=Tryz.zeroValue9
 t20:=Tryz.underlying20
 a20:=Tryz.isAgg20
 z20:=Tryz.sizeOf20
 v20:=Tryz.zeroValue20
 t37:=Tryz.underlying110
 a37:=Tryz.isAgg110
 z37:=Tryz.sizeOf110
 v37:=Tryz.zeroValue110
 t46:=Tryz.underlying178
 a46:=Tryz.isAgg178
 z46:=Tryz.sizeOf178
 v46:=Tryz.zeroValue178
 t51:=Tryz.underlying231
 a51:=Tryz.isAgg231
 z51:=Tryz.sizeOf231
 v51:=Tryz.zeroValue231
 t53:=Tryz.underlying234
 a53:=Tryz.isAgg234
 z53:=Tryz.sizeOf234
 v53:=Tryz.zeroValue234
 t70:=Tryz.underlying130
 a70:=Tryz.isAgg130
 z70:=Tryz.sizeOf130
 v70:=Tryz.zeroValue130
 t72:=Tryz.underlying132
 a72:=Tryz.isAgg132
 z72:=Tryz.sizeOf132
 v72:=Tryz.zeroValue132
 t75:=Tryz.underlying81
 a75:=Tryz.isAgg81
 z75:=Tryz.sizeOf81
 v75:=Tryz.zeroValue81
 t76:=Tryz.underlying135
 a76:=Tryz.isAgg135
 z76:=Tryz.sizeOf135
 v76:=Tryz.zeroValue135
 t109:=Tryz.underlying220
 a109:=Tryz.isAgg220
 z109:=Tryz.sizeOf220
 v109:=Tryz.zeroValue220
 t127:=Tryz.underlying179
 a127:=Tryz.isAgg179
 z127:=Tryz.sizeOf179
 v127:=Tryz.zeroValue179
 t146:=Tryz.underlying232
 a146:=Tryz.isAgg232
 z146:=Tryz.sizeOf232
 v146:=Tryz.zeroValue232
 t148:=Tryz.underlying235
 a148:=Tryz.isAgg235
 z148:=Tryz.sizeOf235
 v148:=Tryz.zeroValue235
 t164:=Tryz.underlying156
 a164:=Tryz.isAgg156
 z164:=Tryz.sizeOf156
 v164:=Tryz.zeroValue156 }
theorem Tryz.Builder_Extra_105:Builder.Extra Tryz.prog Tryz.lays105_ren:={
 sizeBuilder:=by kernel_rfl
 liesBuilder:=by kernel_rfl
 t5:=Tryz.underlying5
 a5:=Tryz.isAgg5
 z5:=Tryz.sizeOf5
 v5:=Tryz.zeroValue5
 infoByte:=by kernel_rfl
 cellsByte:=by kernel_rfl
 sizeByte:=by kernel_rfl
 neB5:=by decide }
open Go.RowKit Go.Lib in
/-- **strings.Repeat: count ≥ 0,the result within one allocation: count copies of s.** (LAID: no walk: one application.) -/
theorem Tryz.strings_Repeat (s:ByteArray) (c:Nat) (w:World) (hc:c≤9223372036854775807) (hlen:s.size*c≤140737488355328) :
  Calls Tryz.prog 117 #[.string s,.int .i64 c] w fun e w'=>e = .returned (.string ⟨(Lib.repeatL s.data.toList c).toArray⟩)∧Below w.heap.size w w':=Any.strings_Repeat Tryz.lays105 Tryz.Builder_Extra_105 s c w hc hlen
def Tryz.lays193_ren:Go.Shelf.Ren:=⟨fun|193=>159|n=>n,fun|31=>22|9=>9|4=>4|3=>3|0=>0|n=>n,fun|n=>n⟩
theorem Tryz.lays193:Go.Proofs.Lays.n193 Tryz.prog Tryz.lays193_ren:={
 mixed:=by kernel_rfl
 f193:=Tryz.func159.trans (congrArg some (by kernel_rfl))
 t0:=Tryz.underlying0
 a0:=Tryz.isAgg0
 z0:=Tryz.sizeOf0
 v0:=Tryz.zeroValue0
 t3:=Tryz.underlying3
 a3:=Tryz.isAgg3
 z3:=Tryz.sizeOf3
 v3:=Tryz.zeroValue3
 t4:=Tryz.underlying4
 a4:=Tryz.isAgg4
 z4:=Tryz.sizeOf4
 v4:=Tryz.zeroValue4
 t9:=Tryz.underlying9
 a9:=Tryz.isAgg9
 z9:=Tryz.sizeOf9
 v9:=Tryz.zeroValue9
 t31:=Tryz.underlying22
 a31:=Tryz.isAgg22
 z31:=Tryz.sizeOf22
 v31:=Tryz.zeroValue22 }
open Go.RowKit Go.Lib in
/-- slices.Equal at []string: "Equal reports whether two slices are equal: the same length and all elements equal. If the lengths are different, Equal returns false. Otherwise, the elements are compared in increasing index order, and the comparison stops at the first unequal pair. Empty and nil slices are considered equal.": IT RETURNS WHETHER THE TWO LISTS OF ELEMENTS ARE ONE;the world is as it was but for the count of draws (the test 's1[i] != s2[i]' has two reads,whose order the model draws,once a round). 'xs','ys': what the cells behind the two addresses hold (the spare capacity too,if you have it);'xs.take n','ys.take m': the elements. THE TWO SLICES MAY OVERLAP. (LAID: no walk: one application.) -/
theorem Tryz.slices_Equal_string (b1 o1 n c b2 o2 m d:Nat) (xs ys:List ByteArray) (w:World) (hx:n≤xs.length) (hy:m≤ys.length) (hbig:n≤9223372036854775807) (hbig2:m≤9223372036854775807) (hc1 : ∀ j,j<xs.length→w.cell? ⟨b1,o1+j,none⟩=some (.string (xs.getD j ByteArray.empty))) (hc2 : ∀ j,j<ys.length→w.cell? ⟨b2,o2+j,none⟩=some (.string (ys.getD j ByteArray.empty))) :
  Calls Tryz.prog 159 #[.slice (some ⟨b1,o1,none⟩) n c,.slice (some ⟨b2,o2,none⟩) m d] w fun e w'=>e = .returned (.bool (decide (xs.take n=ys.take m)))∧∃ q,w'=w.drewN q:=Any.slices_Equal_string Tryz.lays193 b1 o1 n c b2 o2 m d xs ys w hx hy hbig hbig2 hc1 hc2
open Go.RowKit Go.Lib in
/-- The same where the first is of length 0 (a nil one too): no cell is asked for. (LAID: no walk: one application.) -/
theorem Tryz.slices_Equal_string_empty (a1 a2:Option Addr) (c m d:Nat) (w:World) (hbig2:m≤9223372036854775807) :
  Calls Tryz.prog 159 #[.slice a1 0 c,.slice a2 m d] w fun e w'=>e = .returned (.bool (decide (m=0)))∧w'=w:=Any.slices_Equal_string_empty Tryz.lays193 a1 a2 c m d w hbig2
def Tryz.laysNm216_ren:Go.Shelf.Ren:=⟨fun|16=>89|n=>n,fun|24=>22|9=>9|4=>4|n=>n,fun|n=>n⟩
theorem Tryz.laysNm216:Go.Proofs.Lays2.n16 Tryz.prog Tryz.laysNm216_ren:={
 mixed:=by kernel_rfl
 f16:=Tryz.func89.trans (congrArg some (by kernel_rfl))
 t4:=Tryz.underlying4
 a4:=Tryz.isAgg4
 z4:=Tryz.sizeOf4
 v4:=Tryz.zeroValue4
 t9:=Tryz.underlying9
 a9:=Tryz.isAgg9
 z9:=Tryz.sizeOf9
 v9:=Tryz.zeroValue9
 t24:=Tryz.underlying22
 a24:=Tryz.isAgg22
 z24:=Tryz.sizeOf22
 v24:=Tryz.zeroValue22
 i9:=by kernel_rfl }
open Go.RowKit Go.Lib in
/-- slices.Clone at []string: "Clone returns a copy of the slice. The elements are copied using assignment, so this is a shallow clone. The result may have additional unused capacity. The result preserves the nilness of s.": OF A SLICE THAT IS NOT nil IT RETURNS A SLICE THAT IS NOT nil,OF THE SAME ELEMENTS,IN MEMORY OF THE CALL's OWN: in the how-to's words (6f): 'w'.ownsRow B e 1 v' n cells': v' begins at the head of a row among the blocks from B on (B: the heap's size at the call),not frozen,whose first cells are the elements · 'Below B w w'': below B all is as it was. The capacity is whatever the run-time gives. 'zs': what the cells behind the slice's address hold;'zs.take n': its elements. (LAID: no walk: one application.) -/
theorem Tryz.slices_Clone_string (b off n c:Nat) (zs:List ByteArray) (w:World) (hz:n≤zs.length) (hbig:n*16≤140737488355328) (hc : ∀ j,j<zs.length→w.cell? ⟨b,off+j,none⟩=some (.string (zs.getD j ByteArray.empty))) :
  Calls Tryz.prog 89 #[.slice (some ⟨b,off,none⟩) n c] w fun e w'=>∃ v',e = .returned v'∧w'.ownsRow w.heap.size 9 1 v' n ((zs.take n).map (Value.string))∧v' ≠ .slice none 0 0∧Below w.heap.size w w':=Any.slices_Clone_string Tryz.laysNm216 b off n c zs w hz hbig hc
open Go.RowKit Go.Lib in
/-- The same at nil: nil comes back;the world is as it was. (LAID: no walk: one application.) -/
theorem Tryz.slices_Clone_string_nil (n c:Nat) (w:World) :
  Calls Tryz.prog 89 #[.slice none n c] w fun e w'=>e = .returned (.slice none 0 0)∧w'=w:=Any.slices_Clone_string_nil Tryz.laysNm216 n c w
open Go.RowKit Go.Lib in
/-- The same at a slice of length 0 that is not nil,WHATEVER ITS ADDRESS (no cell is asked for): a slice that is not nil and owns nothing comes back. (LAID: no walk: one application.) -/
theorem Tryz.slices_Clone_string_zero (a:Addr) (c:Nat) (w:World) :
  Calls Tryz.prog 89 #[.slice (some a) 0 c] w fun e w'=>∃ v',e = .returned v'∧w'.ownsRow w.heap.size 9 1 v' 0 []∧v' ≠ .slice none 0 0∧Below w.heap.size w w':=Any.slices_Clone_string_zero Tryz.laysNm216 a c w
open Go.RowKit Go.Lib in
theorem Tryz.slices_Equal_string_lens (a1 a2:Option Addr) (n c m d:Nat) (w:World) (hnm:n≠m) :
  Calls Tryz.prog 159 #[.slice a1 n c,.slice a2 m d] w fun e w'=>e = .returned (.bool false)∧w'=w:=Any.slices_Equal_string_lens Tryz.lays193 a1 a2 n c m d w hnm
end Go.Proofs
/- The contracts of package rec: bytes and numbers. -/
namespace Go.Proofs.YthpgnliicpejoaaGreatDoor
open Go.RowKit
namespace RecW
set_option maxHeartbeats 400000 in
theorem j7g (s:ByteArray) (w:World) (h0:4≤s.size) :
  Calls Tryz.prog 144 #[.string s] w fun e w'=>e = .returned (.int .i64 (RM.num s.data.toList 0))∧∃ m,w'=w.drewN m:=by
 have i0:(0:Int)<(s.size:Int):=by omega
 have i1:(1:Int)<(s.size:Int):=by omega
 have i2:(2:Int)<(s.size:Int):=by omega
 have i3:(3:Int)<(s.size:Int):=by omega
 have j0:0<s.size:=by omega
 have j1:1<s.size:=by omega
 have j2:2<s.size:=by omega
 have j3:3<s.size:=by omega
 go_enter Tryz.func144,Tryz.ntmps144
 go_wp2
 go_quiet (fail)
 go_wp2
 go_ret
 refine ⟨SumW.q5p ?_,_,rfl⟩
 rw [RM.jq1 _ _ _ _ s[0].toNat_lt s[1].toNat_lt s[2].toNat_lt s[3].toNat_lt]
 unfold RM.num
 simp [List.getD,j0,j1,j2,j3]
 rfl
set_option maxHeartbeats 400000 in
theorem qnj (n:Int) (w:World) (h0:0≤n) (h1:n≤1000) :
  Calls Tryz.prog 117 #[.string ⟨#[0]⟩,.int .i64 n] w fun e w'=>e = .returned (.string ⟨(List.replicate n.toNat 0).toArray⟩)∧Below w.heap.size w w':=by
 have hn:n=(n.toNat:Int):=by omega
 have h:=Tryz.strings_Repeat ⟨#[0]⟩ n.toNat w (by omega) (show 1*n.toNat≤_ by omega)
 have hl : ∀ k,Lib.repeatL [(0:UInt8)] k=List.replicate k 0:=by
  intro k
  induction k with
  | zero=>rfl
  | succ k ih=>simp only [Lib.repeatL] at *;simp [ih,List.replicate_succ]
 rw [show (⟨#[0]⟩:ByteArray).data.toList = [0] from rfl,hl,← hn] at h
 exact h
set_option maxHeartbeats 400000 in
theorem q60 (s:ByteArray) (w:World) (h0:s.size≤32) :
  Calls Tryz.prog 111 #[.string s] w fun e w'=>e = .returned (.string (RM.str (RM.q6v s.data.toList)))∧Below w.heap.size w w':=by
 go_enter Tryz.func111,Tryz.ntmps111
 go_wp2_with fail
 refine (qnj (32 - s.size) w (by omega) (by omega)).mono ?_
 rintro e w' ⟨rfl,hb⟩
 go_wp2_with fail
 go_ret
 refine ⟨?_,hb⟩
 simp only [RM.q6v,RM.str]
 congr 2
set_option maxHeartbeats 400000 in
theorem jet (s:ByteArray) (w:World) (h0:s.size≤32) :
  Calls Tryz.prog 113 #[.string s] w fun e w'=>e = .returned (.string (RM.str (RM.q6v s.data.toList)))∧w=w':=by
 have hs : ∀ k,(RM.str (s.data.toList++List.replicate k 0)).size=s.size+k:=by intro k;simp
 go_enter Tryz.func113,Tryz.ntmps113
 go_wp2
 go_loop [0] (fun v=>∃ k:Nat,s.size+k≤32∧v = .string (RM.str (s.data.toList++List.replicate k 0))) (fun v=>match v with | .string t=>32 - t.size|_=>0)
 case atStart=>exact ⟨0,by omega,by simp [RM.str]⟩
 case round =>
  obtain ⟨k,hk,rfl⟩:=hrel
  have hsz:=hs k
  generalize hT:RM.str (s.data.toList++List.replicate k 0)=T at *
  have HT:=Lib.hid hT;clear hT
  go_wp2
  ·refine ⟨⟨k+1,by omega,?_⟩,?_⟩
   ·congr 1
    rw [← HT.out]
    apply ByteArray.ext
    simp [RM.str,List.replicate_succ']
   ·show 32 - (T++⟨#[0]⟩:ByteArray).size<32 - T.size
    rw [ByteArray.size_append,show (⟨#[0]⟩:ByteArray).size=1 from rfl];omega
  ·go_ret
   refine ⟨?_,rfl⟩
   rw [← HT.out,RM.q6v,show 32 - s.data.toList.length=k from by simp;omega];rfl
theorem jpu:(Tryz.prog.info? 5).map (fun i=>(i.zero,i.size,i.bytes))=some (some (.int .u8 0),1,1):=by kernel_rfl
set_option maxHeartbeats 1600000 in
theorem jp4 (ns:List Int) (hn : ∀ k (h:k<ns.length),0≤ns[k]∧ns[k]<4294967296) (g:Nat) (w:World) (hne:0<ns.length) (hlen:ns.length≤1000) (hc : ∀ j (h:j<ns.length),w.cell? ⟨g,j,none⟩=some (.int .i64 ns[j])) (hg:g<w.heap.size) :
  Calls Tryz.prog 138 #[.slice (some ⟨g,0,none⟩) ns.length ns.length] w fun e w'=>e = .returned (.string (RM.str (RM.j33 ns)))∧Below w.heap.size w w':=by
 obtain ⟨i0,hi,hz0,hz1,hz2⟩:=info_parts jpu
 go_enter Tryz.func138,Tryz.ntmps138
 go_wp2
 go_loopw [3,8] (fun v i wr=>∃ k:Nat,k≤ns.length∧i = .int .i64 k∧wr.ownsRow w.heap.size 5 1 v (4*k) ((RM.j33 (ns.take k)).map (fun b=>Value.int .u8 (b.toNat:Int)))∧Below w.heap.size w wr) (fun _ i _=>ns.length - (intOf i).toNat)
 case atStart=>exact ⟨0,Nat.zero_le _,rfl,World.ownsRow_nil _ _ _ _,Below.refl _ _⟩
 case round =>
  obtain ⟨k,hk,rfl,hown,hbel⟩:=hrel
  by_cases hlt:k<ns.length
  ·have hcx:wr.cell? ⟨g,k,none⟩=some (.int .i64 ns[k]):=(hbel.cell hg).trans (hc k hlt)
   have h01:=hn k hlt
   have hsz:=hbel.size
   have hB:=RM.jpk ns[k] h01.1 h01.2
   generalize hN:ns[k]=n at *
   obtain ⟨h0,h1⟩:=h01
   have HN:=Lib.hid hN;clear hN
   have HB:=Lib.hid hB;clear hB
   go_wp2_with (at_builtin;refine wpList_append_own _ rfl _ _ 110 rfl w.heap.size 5 i0 (.int .u8 0) 1 1 Tryz.underlying110 hi hz0 hz1 hz2 rfl (by decide) _ _ _ rfl (hown.alloc _) ⟨wr.heap.size,0,none⟩ 4 4 ((RM.be4 n).map (fun b=>Value.int .u8 (b.toNat:Int))) rfl ?c0 ?c1 ?c2 ?c3 ?c4 ?c5 ?_)
   case c0=>rfl
   case c1=>intro j u hj;rw [HB.out] at hj;exact World.news_of_block (heap_alloc_new wr _) j u hj
   case c2=>intro u hu;rw [List.mem_map] at hu;obtain ⟨b,_,rfl⟩:=hu;rfl
   case c3=>unfold maxLen;omega
   case c4=>omega
   case c5=>simp;omega
   intro v' w1 hown' hgrow _
   have hbel':Below w.heap.size w w1:=((hbel.alloc hsz _).grown hgrow (by simp;omega) (fun j hj=>(hown.lt j hj).1))
   rw [← List.map_append,← HN.out,← RM.jdo ns k hlt] at hown'
   clear hgrow hown hbel hcx HB
   go_wp2
   go_roundw
   case rel=>exact ⟨k+1,by omega,by go_num,hown',hbel'⟩
   case measure=>simp [intOf];omega
  ·have hkk:k=ns.length:=by omega
   subst hkk
   rw [List.take_length] at hown
   obtain ⟨G,cap,cur,rfl,hge,hcells,hl1,hl2,hl3,hl4⟩:=hown.2.resolve_left (by rintro ⟨_,h⟩;omega)
   have hlen4:Hid ((RM.j33 ns).length=4*ns.length):=Lib.hid (RM.qzl ns)
   have hrow:Lib.BRow wr G (RM.j33 ns):=by
    have h:=hown
    rw [← hlen4.out] at h
    exact Lib.BRow.of_owns h
   have hcv:=Lib.qhc (P:=Tryz.prog) wr 110 9 5 G cap (RM.j33 ns) Tryz.underlying110 Tryz.underlying5 Tryz.underlying9 hrow
   rw [hlen4.out] at hcv
   clear hrow hcells hown hl1 hl2 hl3 hl4
   go_wp2
   go_ret
   exact ⟨rfl,hbel⟩
theorem qb2 (a b c d:Int) (ha:0≤a∧a<4294967296) (hb:0≤b∧b<4294967296) (hc:0≤c∧c<4294967296) (hd:0≤d∧d<4294967296) (g:Nat) (w:World)
  (c0:w.cell? ⟨g,0,none⟩=some (.int .i64 a)) (c1:w.cell? ⟨g,1,none⟩=some (.int .i64 b)) (c2:w.cell? ⟨g,2,none⟩=some (.int .i64 c)) (c3:w.cell? ⟨g,3,none⟩=some (.int .i64 d)) (hg:g<w.heap.size) :
  Calls Tryz.prog 138 #[.slice (some ⟨g,0,none⟩) 4 4] w fun e w'=>e = .returned (.string (RM.str (RM.j33 [a,b,c,d])))∧Below w.heap.size w w':=by
 refine jp4 [a,b,c,d] ?_ g w (by simp) (by simp) ?_ hg
 ·intro k hk
  match k,hk with
  | 0,_=>exact ha
  | 1,_=>exact hb
  | 2,_=>exact hc
  | 3,_=>exact hd
 ·intro k hk
  match k,hk with
  | 0,_=>exact c0
  | 1,_=>exact c1
  | 2,_=>exact c2
  | 3,_=>exact c3
/-- 'string([]byte{x})' of a block that holds x -/
theorem conv1 (x:Int) (h0:0≤x) (h1:x<256) (W:World) (b cap:Nat) (hc:W.cell? ⟨b,0,none⟩=some (.int .u8 x)) :
  Sem.run Tryz.prog (convert 110 9 (.slice (some ⟨b,0,none⟩) 1 cap)) W = .ok (.string (RM.str [UInt8.ofNat x.toNat])) W:=by
 refine run_convert_bytes_back W 110 9 5 ⟨b,0,none⟩ cap [UInt8.ofNat x.toNat] Tryz.underlying110 Tryz.underlying5 Tryz.underlying9 (fun j hj=>?_)
 have h:j=0:=by simp at hj;omega
 subst h
 refine Eq.trans (show W.cell? _=W.cell? ⟨b,0,none⟩ from rfl) (hc.trans ?_)
 have:=RM.q46 x h0 h1
 simp only [List.getElem_cons_zero];rw [this]
end RecW
end Go.Proofs.YthpgnliicpejoaaGreatDoor
/- A head that a function tells out of a variable of its own. -/
namespace Go.Proofs.YthpgnliicpejoaaGreatDoor
open Go.RowKit
namespace RecW
theorem q1e {fn:Func} {p u:Tmp} (h:fn.results = #[.cell p 180,.tmp u]) (tmps:Array Value) (w:World) (b:Nat) (k g q z m:Int) (hp:tmps.getD p undef = .pointer (some ⟨b,0,none⟩))
  (c0:w.cell? ⟨b,0,none⟩=some (.int .i64 k)) (c1:w.cell? ⟨b,1,none⟩=some (.int .i64 g)) (c2:w.cell? ⟨b,2,none⟩=some (.int .i64 q)) (c3:w.cell? ⟨b,3,none⟩=some (.int .i64 z)) (c4:w.cell? ⟨b,4,none⟩=some (.int .i64 m)) :
  (results fn tmps).run Tryz.prog w = .ok (.tuple #[RM.hd k g q z m,tmps.getD u undef]) w:=by
 rw [results_cell_tmp h,hp]
 simp [RM.hd,loadVar,go_sem,Result.andThen,c0,c1,c2,c3,c4]
end RecW
end Go.Proofs.YthpgnliicpejoaaGreatDoor
/- The contracts of disk's questions: has,fill,May. -/
namespace Go.Proofs.YthpgnliicpejoaaGreatDoor
open Go.RowKit
set_option linter.unusedVariables false
namespace DiskW
set_option maxHeartbeats 800000 in
theorem jp9 (a:Option Addr) (n cap:Nat) (v2:Value) (i:Int) (w:World) (x:Bool) (hx:decide (DM.inD n i)=x) (hn:n≤9223372036854775807) :
  Calls Tryz.prog 91 #[.agg #[.slice a n cap,v2],.int .i64 i] w fun e w'=>e = .returned (.bool x)∧Below w.heap.size w w':=by
 by_cases h0:0≤i
 ·obtain ⟨y,hy⟩ : ∃ y,decide (i<(n:Int))=y:=⟨_,rfl⟩
  have hxy:x=y:=by rw [← hx,← hy];unfold DM.inD;simp [h0]
  subst hxy
  clear hx
  go_enter Tryz.func91,Tryz.ntmps91
  go_wp2_with fail
  go_ret
  exact ⟨rfl,(Below.refl _ _).alloc (Nat.le_refl _) _⟩
 ·have hxy:x=false:=by rw [← hx];unfold DM.inD;simp [h0]
  subst hxy
  clear hx
  go_enter Tryz.func91,Tryz.ntmps91
  go_wp2_with fail
  go_ret
  exact ⟨rfl,(Below.refl _ _).alloc (Nat.le_refl _) _⟩
set_option maxHeartbeats 400000 in
theorem q60 (s:ByteArray) (w:World) (h0:s.size≤32) :
  Calls Tryz.prog 86 #[.string s] w fun e w'=>e = .returned (.string (DM.qop s))∧Below w.heap.size w w':=by
 go_enter Tryz.func86,Tryz.ntmps86
 go_wp2_with fail
 refine (RecW.qnj (32 - s.size) w (by omega) (by omega)).mono ?_
 rintro e w' ⟨rfl,hb⟩
 go_wp2_with fail
 go_ret
 refine ⟨?_,hb⟩
 simp only [DM.qop,RM.q6v,RM.str]
 congr 2
set_option maxHeartbeats 3200000 in
set_option maxRecDepth 100000 in
theorem qcb (v1 v2:Value) (d:DM.Dk) (w:World) (h:DM.DV w v1 v2 d) (b1:d.secs.length≤9223372036854775807) (b2:d.cache.length≤9223372036854775807) :
  Calls Tryz.prog 54 #[.agg #[v1,v2]] w fun e w'=>e = .returned (.bool (decide (DM.q2y d)))∧Below w.heap.size w w':=by
 obtain ⟨⟨a1,c1,rfl,h1⟩,⟨a2,c2,rfl,h2⟩⟩:=h
 obtain ⟨n,hn⟩ : ∃ n,d.secs.length=n:=⟨_,rfl⟩
 obtain ⟨m,hm⟩ : ∃ m,d.cache.length=m:=⟨_,rfl⟩
 rw [hn] at b1 ⊢
 rw [hm] at b2 ⊢
 have HN:=Lib.hid hn;clear hn
 have HM:=Lib.hid hm;clear hm
 have H1:=Lib.hid h1;clear h1
 have H2:=Lib.hid h2;clear h2
 by_cases hlo:(n:Int)<1
 ·have hno:decide (DM.q2y d)=false:=decide_eq_false fun x=>by have:=x.1;have:=HN.out;omega
  rw [hno]
  clear hno
  go_enter Tryz.func54,Tryz.ntmps54
  go_wp2_with fail
  go_ret
  exact ⟨rfl,(Below.refl _ _).alloc (Nat.le_refl _) _⟩
 by_cases hhi:(512:Int)<(n:Int)
 ·have hno:decide (DM.q2y d)=false:=decide_eq_false fun x=>by have:=x.2.1;have:=HN.out;omega
  rw [hno]
  clear hno
  go_enter Tryz.func54,Tryz.ntmps54
  go_wp2_with fail
  go_ret
  exact ⟨rfl,(Below.refl _ _).alloc (Nat.le_refl _) _⟩
 obtain ⟨z,hz⟩ : ∃ z,decide (DM.q2y d)=z:=⟨_,rfl⟩
 rw [hz]
 have HZ:=Lib.hid hz;clear hz
 go_enter Tryz.func54,Tryz.ntmps54
 go_wp2_with fail
 go_loop [20] (fun i=>∃ k:Nat,k≤n∧i = .int .i64 k∧∀ j (h:j<d.secs.length),j<k→d.secs[j].size=32) (fun i=>n - (intOf i).toNat)
 case atStart=>exact ⟨0,Nat.zero_le _,rfl,fun j _ h=>by omega⟩
 case round =>
  obtain ⟨k,hk,rfl,hall⟩:=hrel
  have HALL:=Lib.hid hall;clear hall
  by_cases hkl:k<n
  ·have hkd:k<d.secs.length:=by rw [HN.out];exact hkl
   obtain ⟨g,off,rfl,hg,hcs⟩:=H1.out (by omega)
   have x4:w.cell? ⟨g,off+k,none⟩=some (.string d.secs[k]):=hcs k hkd
   have hki:(k:Int)<(n:Int):=by omega
   have hsz:=Lib.hid (rfl:d.secs[k]=d.secs[k])
   clear hcs
   by_cases h32:d.secs[k].size=32
   ·have H32:=Lib.hid h32
    have h32i:(d.secs[k].size:Int)=32:=by omega
    clear h32 hsz
    generalize d.secs[k]=x at x4 h32i
    go_wp2_with fail
    go_round
    case rel=>exact ⟨k+1,by omega,by go_num,fun j hj hjk=>by
     by_cases e:j=k
     ·subst e;exact H32.out
     ·exact HALL.out j hj (by omega)⟩
    case measure=>simp [intOf];omega
   ·have hno:z=false:=by rw [← HZ.out];exact decide_eq_false fun x=>h32 (x.2.2.1 _ (List.getElem_mem hkd))
    subst hno
    have h32i : ¬ (d.secs[k].size:Int)=32:=by omega
    go_wp2_with fail
    go_ret
    exact ⟨rfl,(Below.refl _ _).alloc (Nat.le_refl _) _⟩
  ·have hkk:k=n:=by omega
   subst hkk
   go_wp2_with fail
   have H1n:Hid (∀ x∈d.secs,x.size=32):=Lib.hid (RM.jal _ (fun j hj=>HALL.out j hj (by rw [← HN.out];exact hj)))
   clear HALL
   go_loopw [31] (fun i wr=>∃ q:Nat,q≤m∧i = .int .i64 q∧(∀ j (h:j<d.cache.length),j<q→DM.wOk d.secs.length d.cache[j])∧DM.Box wr w.heap.size (.slice a1 k c1) (.slice a2 m c2)∧Below w.heap.size w wr) (fun i _=>m - (intOf i).toNat)
   case atStart=>exact ⟨0,Nat.zero_le _,rfl,fun j _ h=>by omega,⟨by simp,by go_simp,by go_simp⟩,(Below.refl _ _).alloc (Nat.le_refl _) _⟩
   case round =>
    obtain ⟨q,hq,rfl,hall,hbox,hbel⟩:=hrel
    have HALL:=Lib.hid hall;clear hall
    have HBOX:=Lib.hid hbox
    obtain ⟨hbs,hb0,hb1⟩:=hbox
    by_cases hql:q<m
    ·have hqd:q<d.cache.length:=by rw [HM.out];exact hql
     obtain ⟨g,off,rfl,hg,hcs⟩:=H2.out (by omega)
     have x4:wr.cell? ⟨g,off+q*2,none⟩=some (.int .i64 d.cache[q].1):=(hbel.cell (p:=⟨g,off+q*2,none⟩) hg).trans (hcs q hqd).1
     have x5:wr.cell? ⟨g,off+q*2+1,none⟩=some (.string d.cache[q].2):=(hbel.cell (p:=⟨g,off+q*2+1,none⟩) hg).trans (hcs q hqd).2
     have hqi:(q:Int)<(m:Int):=by omega
     clear hcs
     have HP:=Lib.hid (rfl:d.cache[q]=d.cache[q])
     generalize hP:d.cache[q]=P at x4 x5
     have HP:=Lib.hid hP;clear hP
     obtain ⟨i1,s1⟩:=P
     simp only at x4 x5
     obtain ⟨y,hy⟩ : ∃ y,decide (DM.inD k i1)=y:=⟨_,rfl⟩
     have hcase:(y=false∧z=false)∨(y=true∧¬ (s1.size:Int)=32∧z=false)∨(y=true∧(s1.size:Int)=32∧DM.wOk d.secs.length d.cache[q]):=by
      by_cases hin:DM.inD k i1
      ·have hy1:y=true:=by rw [← hy];exact decide_eq_true hin
       by_cases h32:s1.size=32
       ·refine Or.inr (Or.inr ⟨hy1,by omega,?_⟩)
        rw [HP.out,HN.out]
        exact ⟨hin.1,hin.2,h32⟩
       ·refine Or.inr (Or.inl ⟨hy1,by omega,?_⟩)
        rw [← HZ.out]
        exact decide_eq_false fun x=>h32 (by have:=(x.2.2.2 _ (List.getElem_mem hqd)).2.2;rw [HP.out] at this;exact this)
      ·refine Or.inl ⟨by rw [← hy];exact decide_eq_false hin,?_⟩
       rw [← HZ.out]
       exact decide_eq_false fun x=>hin (by have:=x.2.2.2 _ (List.getElem_mem hqd);rw [HP.out,HN.out] at this;exact ⟨this.1,this.2.1⟩)
     have hhas:=fun w=>jp9 a1 k c1 (.slice (some ⟨g,off,none⟩) m c2) i1 w y hy (by omega)
     have HHAS:=Lib.hid hhas
     clear hhas hy
     rcases hcase with ⟨rfl,rfl⟩|⟨rfl,h32,rfl⟩|⟨rfl,h32,hok⟩
     ·go_wp2_with fail
      refine (HHAS.out _).mono ?_;rintro e w2 ⟨rfl,b2⟩
      have B2:Below w.heap.size w w2:=(hbel.alloc (by omega) _).trans (b2.mono (by simp;omega))
      clear b2
      go_wp2_with fail
      go_ret
      exact ⟨rfl,B2⟩
     ·go_wp2_with fail
      refine (HHAS.out _).mono ?_;rintro e w2 ⟨rfl,b2⟩
      have B2:Below w.heap.size w w2:=(hbel.alloc (by omega) _).trans (b2.mono (by simp;omega))
      have y1:w2.cell? ⟨wr.heap.size,1,none⟩=some (.string s1):=(b2.cell (by simp)).trans (by go_simp)
      clear b2
      go_wp2_with fail
      go_ret
      exact ⟨rfl,B2⟩
     ·have HOK:=Lib.hid hok;clear hok
      go_wp2_with fail
      refine (HHAS.out _).mono ?_;rintro e w2 ⟨rfl,b2⟩
      have B2:Below w.heap.size w w2:=(hbel.alloc (by omega) _).trans (b2.mono (by simp;omega))
      have y1:w2.cell? ⟨wr.heap.size,1,none⟩=some (.string s1):=(b2.cell (by simp)).trans (by go_simp)
      have hbx2:DM.Box w2 w.heap.size (.slice a1 k c1) (.slice (some ⟨g,off,none⟩) m c2):=(HBOX.out.below ((Below.refl _ _).alloc (Nat.le_refl _) _)).below b2
      have HBX2:=Lib.hid hbx2
      clear b2 hbx2 HBOX hb0 hb1 x4 x5
      go_wp2_with fail
      go_roundw
      case rel=>exact ⟨q+1,by omega,by go_num,fun j hj hjq=>by
       by_cases e:j=q
       ·subst e;exact HOK.out
       ·exact HALL.out j hj (by omega),HBX2.out,B2⟩
      case measure=>simp [intOf];omega
    ·have hqq:q=m:=by omega
     subst hqq
     have hyes:z=true:=by
      rw [← HZ.out]
      refine decide_eq_true ⟨by rw [HN.out];omega,by rw [HN.out];omega,H1n.out,fun p hp=>?_⟩
      obtain ⟨j,hj,rfl⟩:=List.getElem_of_mem hp
      exact HALL.out j hj (by rw [← HM.out];exact hj)
     subst hyes
     go_wp2_with fail
     go_ret
     exact ⟨rfl,hbel⟩
end DiskW
end Go.Proofs.YthpgnliicpejoaaGreatDoor
/- Laws of my own on a region that draws its order,over any program: the operation is handed over written out. -/
namespace Go.Proofs.YthpgnliicpejoaaGreatDoor
open Go.RowKit
namespace Lib
section
variable {P:Program} {md:Region.Mode} {l:List Oper} {Q:Exit→Go.Act→World→Prop} {S:World→Prop}
theorem q12 {i:Nat} {oi:Oper} {v:Value} {fuel:Nat} {listed:Array Bool} {a:Act} {w:World} (hi:l[i]? = some oi)
  (hs:Region.noSelect l.toArray=true) (hf:Region.free md l.toArray listed i=true) (hr:(Region.ready md l.toArray listed).contains i=true)
  (hQ : ∀ c a w,Q (.panic c) (a.put oi.dst v) w→Q (.panic c) a w) (hy:YieldsIf P l.toArray S oi v a) (hS:S w)
  (h:wpAnyH P md l.toArray Q S fuel (listed.setIfInBounds i true) (a.put oi.dst v) w):wpAnyH P md l.toArray Q S (fuel+1) listed a w :=
 wpAnyH_take (by rw [List.getElem?_toArray];exact hi) hs hf hr hQ hy hS h
theorem q16 {fuel:Nat} {listed:Array Bool} {a:Act} {w:World} {i:Nat} {o:Oper} {rs:List Nat} (ho:l[i]? = some o)
  (h : ∀ K':Act→World→Prop,Shut (∀ a w,S w→(S w→wpAnyH P md l.toArray Q S fuel (listed.setIfInBounds i true) a w)→K' a w)→if Region.wanted o (yielded l.toArray a.tmps)=true then Oper.wp P o a w K' Q else K' (a.put o.dst undef) w)
  (hs:AllReadyH P md l.toArray Q S fuel listed a w rs):AllReadyH P md l.toArray Q S fuel listed a w (i::rs) :=
 AllReadyH.cons (by rw [List.getElem?_toArray];exact ho) h hs
end
end Lib
end Go.Proofs.YthpgnliicpejoaaGreatDoor
