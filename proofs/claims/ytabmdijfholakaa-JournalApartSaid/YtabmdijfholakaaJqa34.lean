/- One text of JouL, JouP, JouQ, JouR (mk/pack.py). -/
import Derived.Test.YtabmdijfholakaaJqa32
import Derived.Test.YtabmdijfholakaaJqa33
import Derived.Test.YtabmdijfholakaaJqa14
import Derived.Test.YtabmdijfholakaaJqa24
/- Layer 4: the laws: what functions come to, as plain functions of data: written by program (shal.py); the kernel checks it. -/
namespace Go.Proofs.Ytabmdijfholakaa.AM
open Go.RowKit
set_option linter.unusedVariables false
set_option maxRecDepth 20000
/-! armada/armadalaw04.live -/
def l4live_lts (n : Nat) : List LC := []
def l4live_t (n : Nat)  : Option (Bool) :=
  (new_t (9 : Int)).bind fun (r1 : ((List (List UInt8)) × (List ((Int) × (List UInt8)))) × (Bool)) => ((jStart_fc n).F (((2 : Int), (6 : Int)), (4 : Int))).bind fun (r2 : (List ((Bool) × ((Int) × (List UInt8)))) × (Int)) => (jrun_t r1.1 r2.1 (9 : Int)).bind fun (r3 : ((List (List UInt8)) × (List ((Int) × (List UInt8)))) × (Int)) => (jOpen_t n r3.1 ((2 : Int), (6 : Int))).bind fun (r4 : (Int × ((List (List UInt8)) × (Int))) × (Int)) => (jAdd_t n ((2 : Int), (6 : Int)) r4.1 ([104, 101, 108, 108, 111] : List UInt8)).bind fun (r5 : (List ((Bool) × ((Int) × (List UInt8)))) × (Int)) => (jrun_t r3.1 r5.1 (2 : Int)).bind fun (r6 : ((List (List UInt8)) × (List ((Int) × (List UInt8)))) × (Int)) => (crash_t r6.1 []).bind fun (r7 : ((List (List UInt8)) × (List ((Int) × (List UInt8)))) × (Int)) => (jrun_t r3.1 r5.1 (9 : Int)).bind fun (r8 : ((List (List UInt8)) × (List ((Int) × (List UInt8)))) × (Int)) => (jOpen_t n r7.1 ((2 : Int), (6 : Int))).bind fun (r9 : (Int × ((List (List UInt8)) × (Int))) × (Int)) => (jOpen_t n r8.1 ((2 : Int), (6 : Int))).bind fun (r10 : (Int × ((List (List UInt8)) × (Int))) × (Int)) => (jOpen_t n r3.1 ((0 : Int), (2 : Int))).bind fun (r11 : (Int × ((List (List UInt8)) × (Int))) × (Int)) => (jAdd_t n ((2 : Int), (6 : Int)) r10.1 ([48, 49, 50, 51, 52, 53, 54, 55, 56, 57, 48, 49, 50, 51, 52, 53, 54, 55, 56, 57, 48, 49, 50, 51, 52, 53, 54, 55, 56, 57, 48, 48, 49, 50, 51, 52, 53, 54, 55, 56, 57, 48, 49, 50, 51, 52, 53, 54, 55, 56, 57, 48, 49, 50, 51, 52, 53, 54, 55, 56, 57, 48, 48, 49, 50, 51, 52, 53, 54, 55, 56, 57, 48, 49, 50, 51, 52, 53, 54, 55, 56, 57, 48, 49, 50, 51, 52, 53, 54, 55, 56, 57, 48, 48] : List UInt8)).bind fun (r12 : (List ((Bool) × ((Int) × (List UInt8)))) × (Int)) => (bif !decide (((List.length r10.1.2.1 : Nat) : Int) = (1 : Int)) then some false else (bif !decide (((List.length r2.1 : Nat) : Int) = (2 : Int)) then some false else (bif !decide (((List.length r5.1 : Nat) : Int) = (4 : Int)) then some false else (bif decide (r2.2 = (0 : Int)) then (bif decide (r4.2 = (0 : Int)) then (bif decide (r5.2 = (0 : Int)) then (bif decide (r4.1.1 = (4 : Int)) then (bif decide (((List.length r4.1.2.1 : Nat) : Int) = (0 : Int)) then (bif decide (r4.1.2.2 = (3 : Int)) then (bif decide (r9.2 = (0 : Int)) then (bif decide (((List.length r9.1.2.1 : Nat) : Int) = (0 : Int)) then (bif decide (r10.2 = (0 : Int)) then (idxL r10.1.2.1 (0 : Int)).bind fun (x13 : List UInt8) => (bif decide (x13 = ([104, 101, 108, 108, 111] : List UInt8)) then (bif decide (r10.1.2.2 = (5 : Int)) then (bif decide (r11.2 = (5 : Int)) then (bif decide (r12.2 = (3 : Int)) then (jClean_t n r8.1 ((2 : Int), (6 : Int)) r10.1).bind fun (r14 : Bool) => (bif r14 then (jClean_t n r8.1 ((2 : Int), (6 : Int)) r4.1).bind fun (r15 : Bool) => (bif !r15 then (jChk_t n ((2 : Int), (6 : Int))).bind fun (r16 : Bool) => (bif r16 then (jChk_t n ((0 : Int), (1 : Int))).bind fun (r17 : Bool) => some (!r17) else some false) else some false) else some false) else some false) else some false) else some false) else some false) else some false) else some false) else some false) else some false) else some false) else some false) else some false) else some false) else some false))))
def l4live_fc (n : Nat) : FC := { f := 8, args := [], res := .one (.c (.d .bool)), F := fun p => l4live_t n  }
def l4live_ct (n : Nat) : List FC := [rnew_fc, jStart_fc n, jrrun_fc, jOpen_fc n, jAdd_fc n, rcrash_fc, jClean_fc n, jChk_fc n]
theorem l4live_ctok (n : Nat) {G : World → Prop} (hG : Know Inv G) : ∀ c ∈ l4live_ct n, FCok Try.prog G c ∧ noTup c.args = true := List.forall_mem_cons.2 ⟨rnew_ok G hG, List.forall_mem_cons.2 ⟨jStart_ok n G hG, List.forall_mem_cons.2 ⟨jrrun_ok G hG, List.forall_mem_cons.2 ⟨jOpen_ok n G hG, List.forall_mem_cons.2 ⟨jAdd_ok n G hG, List.forall_mem_cons.2 ⟨rcrash_ok G hG, List.forall_mem_cons.2 ⟨jClean_ok n G hG, List.forall_mem_cons.2 ⟨jChk_ok n G hG, (fun _ h => by cases h)⟩⟩⟩⟩⟩⟩⟩⟩
def l4live_dh : Hints := []
theorem l4live_dr : drB l4live_dh (bodyOf Try.f8) = true := by kernel_rfl
theorem l4live_eq (n : Nat) : ∀ a, (l4live_fc n).F a = main Try.prog 187 (l4live_ct n) (l4live_lts n) l4live_dh (bodyOf Try.f8) [.tmp 0] (l4live_fc n).args (l4live_fc n).res a := by intro a; kernel_rfl
theorem l4live_ok (n : Nat) : FCall Inv Try.prog (l4live_fc n) := fun G hG => ⟨⟨by kernel_rfl, fun a r h => main_ok (c := bodyOf Try.f8) Try.func8 (by kernel_rfl) (by kernel_rfl) (Nat.le_of_ble_eq_true (by kernel_rfl)) hG.st (by kernel_rfl) (rs := [.tmp 0]) (by kernel_rfl) (l4live_ctok n hG) (lts := l4live_lts n) (fun F hF hFG => have hK : Know Inv F.G := hFG ▸ hG; (lok_of fun j L h1 h2 h3 => absurd h2 (Nat.not_lt.2 (Nat.le_trans (by decide +kernel) h1)))) l4live_dr ((l4live_eq n a).symm.trans h)⟩, rfl⟩
/-! armada/armadalaw04.JournalApart -/
def l4Apart_lts (n : Nat) : List LC := []
def l4Apart_t (n : Nat) (a1 : (List (List UInt8)) × (List ((Int) × (List UInt8)))) (a2 : Int × (Int)) (a3 : Int × (List UInt8)) : Option (Bool) :=
  (small_t a1).bind fun (r1 : Bool) => (bif !r1 then (l4live_t n ).bind fun (r2 : Bool) => some r2 else (bif decide ((32 : Int) < ((List.length a3.2 : Nat) : Int)) then (l4live_t n ).bind fun (r3 : Bool) => some r3 else (r4Lies_t n a1 a2).bind fun (r4 : Bool) => (bif !r4 then (l4live_t n ).bind fun (r5 : Bool) => some r5 else (bif decide (a2.1 ≤ a3.1) then letO (IntKind.wrap .i64 (a2.1 + a2.2)) fun (n6 : Int) => (bif decide (a3.1 < n6) then (l4live_t n ).bind fun (r7 : Bool) => some r7 else (put_t a1 a3.1 a3.2).bind fun (r8 : ((List (List UInt8)) × (List ((Int) × (List UInt8)))) × (Int)) => (bif !decide (r8.2 = (0 : Int)) then (l4live_t n ).bind fun (r9 : Bool) => some r9 else (jOpen_t n a1 a2).bind fun (r10 : (Int × ((List (List UInt8)) × (Int))) × (Int)) => (jOpen_t n r8.1 a2).bind fun (r11 : (Int × ((List (List UInt8)) × (Int))) × (Int)) => (l4told_t n r10.1).bind fun (r12 : Int × ((List (List UInt8)) × (Int))) => (l4told_t n r11.1).bind fun (r13 : Int × ((List (List UInt8)) × (Int))) => (r4Same_t n r12 r13).bind fun (r14 : Bool) => (bif r14 then (bif decide (r10.2 = r11.2) then (jClean_t n a1 a2 r10.1).bind fun (r15 : Bool) => (jClean_t n r8.1 a2 r11.1).bind fun (r16 : Bool) => (bif decide (r15 = r16) then (l4live_t n ).bind fun (r17 : Bool) => some r17 else some false) else some false) else some false))) else (put_t a1 a3.1 a3.2).bind fun (r18 : ((List (List UInt8)) × (List ((Int) × (List UInt8)))) × (Int)) => (bif !decide (r18.2 = (0 : Int)) then (l4live_t n ).bind fun (r19 : Bool) => some r19 else (jOpen_t n a1 a2).bind fun (r20 : (Int × ((List (List UInt8)) × (Int))) × (Int)) => (jOpen_t n r18.1 a2).bind fun (r21 : (Int × ((List (List UInt8)) × (Int))) × (Int)) => (l4told_t n r20.1).bind fun (r22 : Int × ((List (List UInt8)) × (Int))) => (l4told_t n r21.1).bind fun (r23 : Int × ((List (List UInt8)) × (Int))) => (r4Same_t n r22 r23).bind fun (r24 : Bool) => (bif r24 then (bif decide (r20.2 = r21.2) then (jClean_t n a1 a2 r20.1).bind fun (r25 : Bool) => (jClean_t n r18.1 a2 r21.1).bind fun (r26 : Bool) => (bif decide (r25 = r26) then (l4live_t n ).bind fun (r27 : Bool) => some r27 else some false) else some false) else some false))))))
def l4Apart_fc (n : Nat) : FC := { f := 6, args := [.one (.agg [.d (.lst .str), .d (.lst (.prod (.int .i64) .str))]), .one (.agg [.d (.int .i64), .d (.int .i64)]), .one (.agg [.d (.int .i64), .d .str])], res := .one (.c (.d .bool)), F := fun p => l4Apart_t n p.1 p.2.1 p.2.2 }
def l4Apart_ct (n : Nat) : List FC := [small_fc, l4live_fc n, r4Lies_fc n, put_fc, jOpen_fc n, l4told_fc n, r4Same_fc n, jClean_fc n]
theorem l4Apart_ctok (n : Nat) {G : World → Prop} (hG : Know Inv G) : ∀ c ∈ l4Apart_ct n, FCok Try.prog G c ∧ noTup c.args = true := List.forall_mem_cons.2 ⟨small_ok G hG, List.forall_mem_cons.2 ⟨l4live_ok n G hG, List.forall_mem_cons.2 ⟨r4Lies_ok n G hG, List.forall_mem_cons.2 ⟨put_ok G hG, List.forall_mem_cons.2 ⟨jOpen_ok n G hG, List.forall_mem_cons.2 ⟨l4told_ok n G hG, List.forall_mem_cons.2 ⟨r4Same_ok n G hG, List.forall_mem_cons.2 ⟨jClean_ok n G hG, (fun _ h => by cases h)⟩⟩⟩⟩⟩⟩⟩⟩
def l4Apart_dh : Hints := [(8, [⟨9873027343927236252929815095344103029896415193801479180494307328, 1645504557321206042154969182557350504982735865633579863348609024, 0⟩, ⟨80629723308739096065593489945310174744154057416045413304081842176, 13164036458569648337239753460458804039861886925068638906788872192, 1⟩, ⟨631873750011343120187508166102022593913370572403294667551635668992, 105312291668557186697918027683670432318895095400549111254310977536, 0⟩, ⟨5160302291759302148197983356499851183625859674626906451461237899264, 842498333348457493583344221469363458551160763204392890034487820288, 7⟩, ⟨41295582370532986833921106605459268273046739283940320250596692066304, 6739986666787659948666753771754907668409286105635143120275902562304, 15⟩, ⟨330259346672595337484670934815990475752055019176122012893519225552896, 53919893334301279589334030174039261347274288845081144962207220498432, 31⟩, ⟨2642074773380762699877367478527923806016440153408976103148154878164992, 431359146674410236714672241392314090778194310760649159697657763987456, 63⟩, ⟨20759158933705992641893601617005115618700601205356240810449848611373056, 3450873173395281893717377931138512726225554486085193277581262111899648, 63⟩, ⟨169578064536377524308455524897353476937177638417780200906141708467568640, 27606985387162255149739023449108101809804435888681546220650096895197184, 255⟩, ⟨1352796203864284803616801483036471027941764632834240845956816955085160448, 220855883097298041197912187592864814478435487109452369765200775161577472, 511⟩, ⟨10821938271767604018697697192050375909443338868363166118494837982917296128, 1766847064778384329583297500742918515827483896875618958121606201292619776, 1023⟩, ⟨86575506174140832149581577536403007275546710946905328947958703863338370560, 14134776518227074636666380005943348126619871175004951664972849610340958208, 2047⟩, ⟨680236119939677966889569537786023628593581300297113298876818387497658626048, 113078212145816597093331040047546785012958969400039613319782796882727665664, 2047⟩, ⟨5429521030063975044809473219782988599137858015098777058307695856572623224832, 904625697166532776746648320380374280103671755200316906558262375061821325312, 2047⟩, ⟨44455638996888928116645348416192572776735322329287448605297733630723606183936, 7237005577332262213973186563042994240829374041602535252466099000494570602496, 16383⟩, ⟨347378034559013364655042538323564466478325781480818567737330873629940687831040, 57896044618658097711785492504343953926634992332820282019728792003956564819968, 2047⟩, ⟨2779011908542653468550033223506010531396995459459270412565940137796116403990528, 463168356949264781694283940034751631413079938662562256157830336031652518559744, 2047⟩, ⟨22232082900411774299709958704965579050746352883286885171194814251125547953291264, 3705346855594118253554271520278013051304639509300498049262642688253220148477952, 2047⟩, ⟨182083062092526782081949703509459235842185566714203683827666008974049597651419136, 29642774844752946028434172162224104410437116074403984394101141506025761187823616, 262143⟩, ⟨1452503206165318752433872738718841659848578032847320734721827358015868994066579456, 237142198758023568227473377297792835283496928595231875152809132048206089502588928, 524287⟩, ⟨11619967740910001907924579817175146429634268016993845779363266428483704586919477248, 1897137590064188545819787018382342682267975428761855001222473056385648716020711424, 1048575⟩, ⟨92959741913145238745169563900734791431130796009330895059901179762896787085014859776, 15177100720513508366558296147058741458143803430094840009779784451085189728165691392, 2097151⟩, ⟨743677935305161909961356511205878331449046368074647160479209438103174296680118878208, 121416805764108066932466369176469931665150427440758720078238275608681517825325531136, 4194303⟩, ⟨5964600583161808788057410385794085393050514748027272123843455289276479563169116717056, 971334446112864535459730953411759453321203419526069760625906204869452142602604249088, 8388607⟩, ⟨971334446112864535459730953411759453321203419526069760625906204869452142602605821952, 262144, 16777215⟩])]
theorem l4Apart_dr : drB l4Apart_dh (bodyOf Try.f6) = true := by kernel_rfl
theorem l4Apart_eq (n : Nat) : ∀ a, (l4Apart_fc n).F a = main Try.prog 94 (l4Apart_ct n) (l4Apart_lts n) l4Apart_dh (bodyOf Try.f6) [.tmp 6] (l4Apart_fc n).args (l4Apart_fc n).res a := by intro a; kernel_rfl
theorem l4Apart_ok (n : Nat) : FCall Inv Try.prog (l4Apart_fc n) := fun G hG => ⟨⟨by kernel_rfl, fun a r h => main_ok (c := bodyOf Try.f6) Try.func6 (by kernel_rfl) (by kernel_rfl) (Nat.le_of_ble_eq_true (by kernel_rfl)) hG.st (by kernel_rfl) (rs := [.tmp 6]) (by kernel_rfl) (l4Apart_ctok n hG) (lts := l4Apart_lts n) (fun F hF hFG => have hK : Know Inv F.G := hFG ▸ hG; (lok_of fun j L h1 h2 h3 => absurd h2 (Nat.not_lt.2 (Nat.le_trans (by decide +kernel) h1)))) l4Apart_dr ((l4Apart_eq n a).symm.trans h)⟩, rfl⟩
/-! armada/armadalaw04.JournalStarts -/
@[reducible] def l4Starts_sh0 : SSt := ⟨[(2, .one (.c (.d (.int .i64)))), (3, .one (.c (.box 3 0))), (4, .one (.c (.box 4 0))), (9, .one (.c (.box 9 0))), (11, .one (.c (.box 11 0))), (13, .one (.c (.d (.int .i64))))], [(3, (25, [.d (.lst .str), .d (.lst (.prod (.int .i64) .str))])), (4, (27, [.d (.int .i64), .d (.int .i64)])), (9, (25, [.d (.lst .str), .d (.lst (.prod (.int .i64) .str))])), (11, (35, [.d (.int .i64), .d (.lst .str), .d (.int .i64)]))], []⟩
@[reducible] def l4Starts_outs0 : List (Exit × SSt) := [(.ret, ⟨[(6, .one (.c (.d .bool)))], [], []⟩), (.exit 0, ⟨[(4, .one (.c (.box 4 0))), (9, .one (.c (.box 9 0))), (11, .one (.c (.box 11 0)))], [(4, (27, [.d (.int .i64), .d (.int .i64)])), (9, (25, [.d (.lst .str), .d (.lst (.prod (.int .i64) .str))])), (11, (35, [.d (.int .i64), .d (.lst .str), .d (.int .i64)]))], []⟩)]
def l4Starts_l0 (n : Nat) (rec : Int → Int → (List (List UInt8)) → (List ((Int) × (List UInt8))) → Int → Int → (List (List UInt8)) → (List ((Int) × (List UInt8))) → Int → (List (List UInt8)) → Int → Option (((Bool × (Unit)) × (Unit) × (Unit)) ⊕ ((Unit × (Unit × (Unit × (Unit)))) × ((Int × (Int)) × (((List (List UInt8)) × (List ((Int) × (List UInt8)))) × ((Int × ((List (List UInt8)) × (Int))) × (Unit)))) × (Unit)))) (a1 : Int) (a2 : Int) (a3 : List (List UInt8)) (a4 : List ((Int) × (List UInt8))) (a5 : Int) (a6 : Int) (a7 : List (List UInt8)) (a8 : List ((Int) × (List UInt8))) (a9 : Int) (a10 : List (List UInt8)) (a11 : Int) : Option (((Bool × (Unit)) × (Unit) × (Unit)) ⊕ ((Unit × (Unit × (Unit × (Unit)))) × ((Int × (Int)) × (((List (List UInt8)) × (List ((Int) × (List UInt8)))) × ((Int × ((List (List UInt8)) × (Int))) × (Unit)))) × (Unit))) :=
  letO (IntKind.wrap .i64 (a5 + a6)) fun (n10 : Int) => (bif decide (a2 < n10) then (get_t (a3, a4) a2).bind fun (r11 : (List UInt8) × (Int)) => (jread_t r11.1).bind fun (r12 : (Int × (Int × (Int × (Int × (Int))))) × (Bool)) => (bif r12.2 then (bif decide (r12.1.2.1 = a1) then (l4live_t n ).bind fun (r13 : Bool) => some (Sum.inl ((r13, ()), ((), ()))) else letO (IntKind.wrap .i64 (a2 + (1 : Int))) fun (n14 : Int) => rec a1 n14 a3 a4 a5 a6 a7 a8 a9 a10 a11) else letO (IntKind.wrap .i64 (a2 + (1 : Int))) fun (n15 : Int) => rec a1 n15 a3 a4 a5 a6 a7 a8 a9 a10 a11) else some (Sum.inr ((((), ((), ((), ()))), (((a5, a6), ((a7, a8), ((a9, (a10, a11)), ()))), ())))))
/-! armada/armadalaw04.JournalRow -/
@[reducible] def l4Row_sh0 : SSt := ⟨[(0, .one (.c (.d (.int .i64)))), (1, .one (.c (.d (.int .i64)))), (2, .one (.c (.d (.lst .str)))), (7, .one (.c (.box 7 0))), (9, .one (.c (.box 9 0))), (13, .one (.c (.row 146))), (14, .one (.c (.d (.int .i64))))], [(7, (25, [.d (.lst .str), .d (.lst (.prod (.int .i64) .str))])), (9, (33, [.d (.int .i64), .d (.int .i64)]))], [(146, ⟨9, false, .str⟩)]⟩
@[reducible] def l4Row_outs0 : List (Exit × SSt) := [(.ret, ⟨[(6, .one (.c (.d .bool)))], [], []⟩), (.exit 0, ⟨[(1, .one (.c (.d (.int .i64)))), (7, .one (.c (.box 7 0))), (9, .one (.c (.box 9 0))), (13, .one (.c (.row 146)))], [(7, (25, [.d (.lst .str), .d (.lst (.prod (.int .i64) .str))])), (9, (33, [.d (.int .i64), .d (.int .i64)]))], [(146, ⟨9, false, .str⟩)]⟩)]
def l4Row_l0 (n : Nat) (rec : Int → Int → (List (List UInt8)) → Int → (List (List UInt8)) → (List ((Int) × (List UInt8))) → Int → Int → (List (List UInt8)) → Option (((Bool × (Unit)) × (Unit) × (Unit)) ⊕ ((Int × (Unit × (Unit × (Unit × (Unit))))) × (((List (List UInt8)) × (List ((Int) × (List UInt8)))) × ((Int × (Int)) × (Unit))) × ((List (List UInt8)) × (Unit))))) (a1 : Int) (a2 : Int) (a3 : List (List UInt8)) (a4 : Int) (a5 : List (List UInt8)) (a6 : List ((Int) × (List UInt8))) (a7 : Int) (a8 : Int) (a9 : List (List UInt8)) : Option (((Bool × (Unit)) × (Unit) × (Unit)) ⊕ ((Int × (Unit × (Unit × (Unit × (Unit))))) × (((List (List UInt8)) × (List ((Int) × (List UInt8)))) × ((Int × (Int)) × (Unit))) × ((List (List UInt8)) × (Unit)))) :=
  (bif decide (a4 < ((List.length a3 : Nat) : Int)) then (idxL a3 a4).bind fun (x9 : List UInt8) => (bif decide ((4096 : Int) < ((List.length x9 : Nat) : Int)) then (l4live_t n ).bind fun (r10 : Bool) => some (Sum.inl ((r10, ()), ((), ()))) else (jOpen_t n (a5, a6) (a7, a8)).bind fun (r11 : (Int × ((List (List UInt8)) × (Int))) × (Int)) => (idxL a3 a4).bind fun (x12 : List UInt8) => (jAdd_t n (a7, a8) r11.1 x12).bind fun (r13 : (List ((Bool) × ((Int) × (List UInt8)))) × (Int)) => (jrun_t (a5, a6) r13.1 ((List.length r13.1 : Nat) : Int)).bind fun (r14 : ((List (List UInt8)) × (List ((Int) × (List UInt8)))) × (Int)) => (idxL a3 a4).bind fun (x15 : List UInt8) => (jcount_t ((List.length x15 : Nat) : Int)).bind fun (r16 : Int) => letO (IntKind.wrap .i64 ((1 : Int) + r16)) fun (n17 : Int) => letO (IntKind.wrap .i64 (a1 - r11.1.2.2)) fun (n18 : Int) => (bif !decide (r11.2 = (0 : Int)) then some (Sum.inl ((false, ()), ((), ()))) else (bif !decide (r14.2 = (0 : Int)) then some (Sum.inl ((false, ()), ((), ()))) else (bif !decide (decide (r13.2 = (0 : Int)) = decide (n17 ≤ n18)) then some (Sum.inl ((false, ()), ((), ()))) else (jrsam3_t r11.1.2.1 a9).bind fun (r19 : Bool) => (bif !r19 then some (Sum.inl ((false, ()), ((), ()))) else (bif decide (n17 ≤ n18) then (idxL a3 a4).bind fun (x20 : List UInt8) => (appO 16 a9 ([x20] : List (List UInt8))).bind fun (l21 : List (List UInt8)) => letO (IntKind.wrap .i64 (a4 + (1 : Int))) fun (n22 : Int) => rec a1 a2 a3 n22 r14.1.1 r14.1.2 a7 a8 l21 else letO (IntKind.wrap .i64 (a4 + (1 : Int))) fun (n23 : Int) => rec a1 a2 a3 n23 r14.1.1 r14.1.2 a7 a8 a9)))))) else some (Sum.inr (((a2, ((), ((), ((), ())))), (((a5, a6), ((a7, a8), ())), (a9, ()))))))
def l4Row_F0 (n : Nat) (rec : pSt l4Row_sh0 → Option (pOuts l4Row_outs0)) (p : pSt l4Row_sh0) : Option (pOuts l4Row_outs0) := l4Row_l0 n (fun a1 a2 a3 a4 a5 a6 a7 a8 a9 => rec ((a1, (a2, (a3, ((), ((), ((), (a4, ()))))))), (((a5, a6), ((a7, a8), ())), (a9, ())))) p.1.1 p.1.2.1 p.1.2.2.1 p.1.2.2.2.2.2.2.1 p.2.1.1.1 p.2.1.1.2 p.2.1.2.1.1 p.2.1.2.1.2 p.2.2.1
def l4Row_loop0 (n m : Nat) (a1 : Int) (a2 : Int) (a3 : List (List UInt8)) (a4 : Int) (a5 : List (List UInt8)) (a6 : List ((Int) × (List UInt8))) (a7 : Int) (a8 : Int) (a9 : List (List UInt8)) : Option (((Bool × (Unit)) × (Unit) × (Unit)) ⊕ ((Int × (Unit × (Unit × (Unit × (Unit))))) × (((List (List UInt8)) × (List ((Int) × (List UInt8)))) × ((Int × (Int)) × (Unit))) × ((List (List UInt8)) × (Unit)))) := iterF (l4Row_F0 n) m ((a1, (a2, (a3, ((), ((), ((), (a4, ()))))))), (((a5, a6), ((a7, a8), ())), (a9, ())))
theorem l4Row_loop0_succ (n m : Nat) (a1 : Int) (a2 : Int) (a3 : List (List UInt8)) (a4 : Int) (a5 : List (List UInt8)) (a6 : List ((Int) × (List UInt8))) (a7 : Int) (a8 : Int) (a9 : List (List UInt8)) : l4Row_loop0 n (m + 1) a1 a2 a3 a4 a5 a6 a7 a8 a9 = l4Row_l0 n (fun a1 a2 a3 a4 a5 a6 a7 a8 a9 => l4Row_loop0 n m a1 a2 a3 a4 a5 a6 a7 a8 a9) a1 a2 a3 a4 a5 a6 a7 a8 a9 := rfl
def l4Row_L0 (n : Nat) : LC := { sh := l4Row_sh0, outs := l4Row_outs0, F := iterF (l4Row_F0 n) n }
def l4Row_lts (n : Nat) : List LC := [l4Row_L0 n]
def l4Row_t (n : Nat) (a1 : Int) (a2 : Int) (a3 : List (List UInt8)) : Option (Bool) :=
  (bif decide (a1 < (2 : Int)) then (l4live_t n ).bind fun (r1 : Bool) => some r1 else (bif decide ((300 : Int) < a1) then (l4live_t n ).bind fun (r2 : Bool) => some r2 else (bif decide (a2 < (0 : Int)) then (l4live_t n ).bind fun (r3 : Bool) => some r3 else (bif decide ((1073741824 : Int) < a2) then (l4live_t n ).bind fun (r4 : Bool) => some r4 else (bif decide ((12 : Int) < ((List.length a3 : Nat) : Int)) then (l4live_t n ).bind fun (r5 : Bool) => some r5 else (new_t a1).bind fun (r6 : ((List (List UInt8)) × (List ((Int) × (List UInt8)))) × (Bool)) => (jStart_t n ((0 : Int), a1) a2).bind fun (r7 : (List ((Bool) × ((Int) × (List UInt8)))) × (Int)) => (jrun_t r6.1 r7.1 ((List.length r7.1 : Nat) : Int)).bind fun (r8 : ((List (List UInt8)) × (List ((Int) × (List UInt8)))) × (Int)) => (bif !decide (r7.2 = (0 : Int)) then some false else (bif !decide (r8.2 = (0 : Int)) then some false else (l4Row_loop0 n n a1 a2 a3 (0 : Int) r8.1.1 r8.1.2 (0 : Int) a1 []).bind fun (o24 : ((Bool × (Unit)) × (Unit) × (Unit)) ⊕ ((Int × (Unit × (Unit × (Unit × (Unit))))) × (((List (List UInt8)) × (List ((Int) × (List UInt8)))) × ((Int × (Int)) × (Unit))) × ((List (List UInt8)) × (Unit)))) => Sum.elim (fun (q25 : (Bool × (Unit)) × (Unit) × (Unit)) => some q25.1.1) (fun (q26 : (Int × (Unit × (Unit × (Unit × (Unit))))) × (((List (List UInt8)) × (List ((Int) × (List UInt8)))) × ((Int × (Int)) × (Unit))) × ((List (List UInt8)) × (Unit))) => (jOpen_t n q26.2.1.1 q26.2.1.2.1).bind fun (r27 : (Int × ((List (List UInt8)) × (Int))) × (Int)) => (bif decide (r27.2 = (0 : Int)) then (jrsam3_t r27.1.2.1 q26.2.2.1).bind fun (r28 : Bool) => (bif r28 then (bif decide (r27.1.1 = q26.1.1) then (l4live_t n ).bind fun (r29 : Bool) => some r29 else some false) else some false) else some false)) o24)))))))
def l4Row_fc (n : Nat) : FC := { f := 5, args := [.one (.c (.d (.int .i64))), .one (.c (.d (.int .i64))), .one (.c (.d (.lst .str)))], res := .one (.c (.d .bool)), F := fun p => l4Row_t n p.1 p.2.1 p.2.2 }
def l4Row_ct (n : Nat) : List FC := [l4live_fc n, rnew_fc, jStart_fc n, jrun_fc, jOpen_fc n, jAdd_fc n, jrcount_fc, jrsam3_fc]
theorem l4Row_ctok (n : Nat) {G : World → Prop} (hG : Know Inv G) : ∀ c ∈ l4Row_ct n, FCok Try.prog G c ∧ noTup c.args = true := List.forall_mem_cons.2 ⟨l4live_ok n G hG, List.forall_mem_cons.2 ⟨rnew_ok G hG, List.forall_mem_cons.2 ⟨jStart_ok n G hG, List.forall_mem_cons.2 ⟨jrun_ok G hG, List.forall_mem_cons.2 ⟨jOpen_ok n G hG, List.forall_mem_cons.2 ⟨jAdd_ok n G hG, List.forall_mem_cons.2 ⟨jrcount_ok G hG, List.forall_mem_cons.2 ⟨jrsam3_ok G hG, (fun _ h => by cases h)⟩⟩⟩⟩⟩⟩⟩⟩
def l4Row_dh : Hints := [(16, [⟨91062604323081050199349776882352448748862820580569040058678706706511138369396801536, 15177100720513508366558296147058741458143803430094840009779784451085189728165691392, 0⟩, ⟨728500834584648401594798215058819589990902564644552320469429653652089212505069453312, 121416805764108066932466369176469931665150427440758720078238275608681517825325531136, 0⟩, ⟨5828006676677187212758385720470556719927220517156418563755437229216712855615625494592, 971334446112864535459730953411759453321203419526069760625906204869452142602604249088, 0⟩, ⟨46624053413417497702067085763764453759417764137251348510043497833733702849323050467328, 7770675568902916283677847627294075626569627356208558085007249638955617140820833992704, 0⟩, ⟨381734437322355762435674264690821465155232943873745415925981138513694692042823469891584, 62165404551223330269422781018352605012557018849668464680057997111644937126566671941632, 12⟩, ⟨3046104823009943183201716269899277645615293923633754769322841858470601919201766925139968, 497323236409786642155382248146820840100456150797347717440463976893159497012533375533056, 28⟩, ⟨24368975177986030087189029183859544693595474683300909008142822885824875120321688892342272, 3978585891278293137243057985174566720803649206378781739523711815145275976100267004264448, 63⟩, ⟨3978597274103833522374332903896677014859742814231354310653719149983614289992563128532992, 1897137590064188545819787018382342682267975428761855001222473056385648716020711424, 127⟩, ⟨190972124678495660651855329108166220980917844174156952258993168349446303238461532225404928, 31828687130226345097944463881396533766429193651030253916189694521162207808802136034115584, 255⟩, ⟨1527776984148002154765522812126820639170943977517427616738960338238259031208151245658259456, 254629497041810760783555711051172270131433549208242031329517556169297662470417088272924672, 255⟩, ⟨31828687130226345097944463881396533766429193651030253916189694521162207822312934916227072, 2251799813685248, 511⟩, ⟨254629497041810760783555711051172270131433549208242031329517556169297662578503479329816576, 18014398509481984, 2047⟩]), (18, [⟨205054755448407367909922083792277003001859634146238665914915994350933093674941492802204360345911360, 34175792574734561318320347298712833833643272357706444319152665725155515612490248800367393390985216, 0⟩, ⟨1640438043587258943279376670338216024014877073169909327319327954807464749399531942417639280813801472, 273406340597876490546562778389702670669146178861651554553221325801244124899921990402939147127881728, 0⟩, ⟨13431086481870682598099896488394143696621806036578632617426997629986117635708667778544385602657189888, 2187250724783011924372502227117621365353169430893212436425770606409952999199375923223513177023053824, 3⟩, ⟨107175285514367584294252609128763446902305302113767409384862759714087696960769420237952145674129637376, 17498005798264095394980017816940970922825355447145699491406164851279623993595007385788105416184430592, 7⟩, ⟨857402284114940674354020873030107575218442416910139275078902077712701575686155361903617165393037099008, 139984046386112763159840142535527767382602843577165595931249318810236991948760059086304843329475444736, 15⟩, ⟨6859218272919525394832166984240860601747539335281114200631216621701612605489242895228937323144296792064, 1119872371088902105278721140284222139060822748617324767449994550481895935590080472690438746635803557888, 31⟩, ⟨54873746183356203158657335873926884813980314682248913605049732973612900843913943161831498585154374336512, 8958978968711216842229769122273777112486581988938598139599956403855167484720643781523509973086428463104, 63⟩, ⟨430030990498138408427028917869141301399355935469052710700797907385048039266590901513128478708148566228993, 71671831749689734737838152978190216899892655911508785116799651230841339877765150252188079784691427704832, 0⟩, ⟨3440247923985107267416231342953130411194847483752421685606383259080384314132727212105027829770741646098432, 573374653997517877902705223825521735199141247292070280934397209846730719022121202017504638277531421638656, 0⟩, ⟨28095358045878376017232555967450565024757921117311443765785463282489805232083938898857727275669408404471808, 4586997231980143023221641790604173881593129978336562247475177678773845752176969616140037106220251373109248, 256⟩, ⟨224834536198776697872598285892582710414963261594403058911400505911149283196549276341114006284577008710057984, 36695977855841144185773134324833391052745039826692497979801421430190766017415756929120296849762010984873984, 896⟩, ⟨1798111873915184776319725811685958435361619438089921339608409250035751390020856810170676069148311624687288320, 293567822846729153486185074598667128421960318613539983838411371441526128139326055432962374798096087878991872, 2047⟩, ⟨293567822846729153486185074598667128421960318613539983838411371441526128139326055432962430138328309007646720, 9223372036854775808, 4095⟩]), (1000018, [])]
theorem l4Row_dr : drB l4Row_dh (bodyOf Try.f5) = true := by kernel_rfl
theorem l4Row_eq0 (n : Nat) : ∀ rec p, l4Row_F0 n rec p = round Try.prog 171 (l4Row_ct n) (l4Row_lts n) l4Row_dh 1 l4Row_sh0 l4Row_outs0 (bodyAt 0 0 (bodyOf Try.f5)) rec p := by intro rec p; kernel_rfl
theorem l4Row_lok0 (n : Nat) {F : Fr} (hF : F.n = 171) (hK : Know Inv F.G) : LCok Try.prog F (l4Row_L0 n) (bodyAt 0 0 (bodyOf Try.f5)) :=
  loop_ok hF (by kernel_rfl) (l4Row_ctok n hK) (l4Row_eq0 n) (fuel := n) (fun _ => rfl) (lok_of fun j L h1 h2 h3 => absurd h2 (Nat.not_lt.2 (Nat.le_trans (by decide +kernel) h1))) (drB_at l4Row_dr)
theorem l4Row_eq (n : Nat) : ∀ a, (l4Row_fc n).F a = main Try.prog 171 (l4Row_ct n) (l4Row_lts n) l4Row_dh (bodyOf Try.f5) [.tmp 6] (l4Row_fc n).args (l4Row_fc n).res a := by intro a; kernel_rfl
theorem l4Row_ok (n : Nat) : FCall Inv Try.prog (l4Row_fc n) := fun G hG => ⟨⟨by kernel_rfl, fun a r h => main_ok (c := bodyOf Try.f5) Try.func5 (by kernel_rfl) (by kernel_rfl) (Nat.le_of_ble_eq_true (by kernel_rfl)) hG.st (by kernel_rfl) (rs := [.tmp 6]) (by kernel_rfl) (l4Row_ctok n hG) (lts := l4Row_lts n) (fun F hF hFG => have hK : Know Inv F.G := hFG ▸ hG; (lok_of (c := (bodyOf Try.f5)) (fun j L h1 h2 h3 => by
    have h2' : j < 1 := Nat.lt_of_lt_of_le h2 (by decide +kernel)
    match j, h1, h2', h3 with
    | 0, _, _, h3 => obtain rfl := Option.some.inj h3; exact (show bodyAt 0 0 (bodyOf Try.f5) = bodyAt 0 0 (bodyOf Try.f5) by kernel_rfl) ▸ l4Row_lok0 n hF hK
    | j + 1, _, h2', _ => exact absurd h2' (by omega)))) l4Row_dr ((l4Row_eq n a).symm.trans h)⟩, rfl⟩
/-! armada/armadalaw04.JournalCrash -/
def l4Crash_lts (n : Nat) : List LC := []
def l4Crash_t (n : Nat) (a1 : (List (List UInt8)) × ((List ((Int) × (List UInt8))) × (Int × (Int × ((List UInt8) × (Int × (List (Bool)))))))) : Option (Bool) :=
  (small_t (a1.1, a1.2.1)).bind fun (r1 : Bool) => (bif !r1 then (l4live_t n ).bind fun (r2 : Bool) => some r2 else (bif decide ((0 : Int) < ((List.length a1.2.1 : Nat) : Int)) then (l4live_t n ).bind fun (r3 : Bool) => some r3 else (bif decide ((1000 : Int) < ((List.length a1.2.2.2.2.2.2 : Nat) : Int)) then (l4live_t n ).bind fun (r4 : Bool) => some r4 else (jOpen_t n (a1.1, a1.2.1) (a1.2.2.1, a1.2.2.2.1)).bind fun (r5 : (Int × ((List (List UInt8)) × (Int))) × (Int)) => (bif !decide (r5.2 = (0 : Int)) then (l4live_t n ).bind fun (r6 : Bool) => some r6 else (jClean_t n (a1.1, a1.2.1) (a1.2.2.1, a1.2.2.2.1) r5.1).bind fun (r7 : Bool) => (bif !r7 then (l4live_t n ).bind fun (r8 : Bool) => some r8 else (jAdd_t n (a1.2.2.1, a1.2.2.2.1) r5.1 a1.2.2.2.2.1).bind fun (r9 : (List ((Bool) × ((Int) × (List UInt8)))) × (Int)) => (bif !decide (r9.2 = (0 : Int)) then (bif decide (((List.length r9.1 : Nat) : Int) = (0 : Int)) then (l4live_t n ).bind fun (r10 : Bool) => some r10 else some false) else (jrun_t (a1.1, a1.2.1) r9.1 a1.2.2.2.2.2.1).bind fun (r11 : ((List (List UInt8)) × (List ((Int) × (List UInt8)))) × (Int)) => (crash_t r11.1 a1.2.2.2.2.2.2).bind fun (r12 : ((List (List UInt8)) × (List ((Int) × (List UInt8)))) × (Int)) => (bif !decide (r11.2 = (0 : Int)) then some false else (bif !decide (r12.2 = (0 : Int)) then some false else (jOpen_t n r12.1 (a1.2.2.1, a1.2.2.2.1)).bind fun (r13 : (Int × ((List (List UInt8)) × (Int))) × (Int)) => (bif !decide (r13.2 = (0 : Int)) then some false else (bif !decide (r13.1.1 = r5.1.1) then some false else (jClean_t n r12.1 (a1.2.2.1, a1.2.2.2.1) r13.1).bind fun (r14 : Bool) => (bif !r14 then some false else (jrsam3_t r13.1.2.1 r5.1.2.1).bind fun (r15 : Bool) => (bif r15 then (appO 16 [] r5.1.2.1).bind fun (l16 : List (List UInt8)) => (appO 16 l16 ([a1.2.2.2.2.1] : List (List UInt8))).bind fun (l17 : List (List UInt8)) => (jrsam3_t r13.1.2.1 l17).bind fun (r18 : Bool) => (bif decide (((List.length r9.1 : Nat) : Int) ≤ a1.2.2.2.2.2.1) then (bif r18 then (l4live_t n ).bind fun (r19 : Bool) => some r19 else some false) else letO (IntKind.wrap .i64 (((List.length r9.1 : Nat) : Int) - (2 : Int))) fun (n20 : Int) => (bif decide (a1.2.2.2.2.2.1 ≤ n20) then (bif decide (r13.1.2.2 = r5.1.2.2) then (l4live_t n ).bind fun (r21 : Bool) => some r21 else some false) else (bif decide (r13.1.2.2 = r5.1.2.2) then (l4live_t n ).bind fun (r22 : Bool) => some r22 else (bif r18 then (l4live_t n ).bind fun (r23 : Bool) => some r23 else some false)))) else (appO 16 [] r5.1.2.1).bind fun (l24 : List (List UInt8)) => (appO 16 l24 ([a1.2.2.2.2.1] : List (List UInt8))).bind fun (l25 : List (List UInt8)) => (jrsam3_t r13.1.2.1 l25).bind fun (r26 : Bool) => (bif decide (((List.length r9.1 : Nat) : Int) ≤ a1.2.2.2.2.2.1) then (bif r26 then (l4live_t n ).bind fun (r27 : Bool) => some r27 else some false) else letO (IntKind.wrap .i64 (((List.length r9.1 : Nat) : Int) - (2 : Int))) fun (n28 : Int) => (bif decide (a1.2.2.2.2.2.1 ≤ n28) then some false else (bif r26 then (l4live_t n ).bind fun (r29 : Bool) => some r29 else some false)))))))))))))))
def l4Crash_fc (n : Nat) : FC := { f := 3, args := [.one (.agg [.d (.lst .str), .d (.lst (.prod (.int .i64) .str)), .d (.int .i64), .d (.int .i64), .d .str, .d (.int .i64), .d (.lst .bool)])], res := .one (.c (.d .bool)), F := fun p => l4Crash_t n p }
def l4Crash_ct (n : Nat) : List FC := [small_fc, l4live_fc n, jOpen_fc n, jClean_fc n, jAdd_fc n, jrun_fc, crash_fc, jrsam3_fc]
theorem l4Crash_ctok (n : Nat) {G : World → Prop} (hG : Know Inv G) : ∀ c ∈ l4Crash_ct n, FCok Try.prog G c ∧ noTup c.args = true := List.forall_mem_cons.2 ⟨small_ok G hG, List.forall_mem_cons.2 ⟨l4live_ok n G hG, List.forall_mem_cons.2 ⟨jOpen_ok n G hG, List.forall_mem_cons.2 ⟨jClean_ok n G hG, List.forall_mem_cons.2 ⟨jAdd_ok n G hG, List.forall_mem_cons.2 ⟨jrun_ok G hG, List.forall_mem_cons.2 ⟨crash_ok G hG, List.forall_mem_cons.2 ⟨jrsam3_ok G hG, (fun _ h => by cases h)⟩⟩⟩⟩⟩⟩⟩⟩
def l4Crash_dh : Hints := []
theorem l4Crash_dr : drB l4Crash_dh (bodyOf Try.f3) = true := by kernel_rfl
theorem l4Crash_eq (n : Nat) : ∀ a, (l4Crash_fc n).F a = main Try.prog 166 (l4Crash_ct n) (l4Crash_lts n) l4Crash_dh (bodyOf Try.f3) [.tmp 2] (l4Crash_fc n).args (l4Crash_fc n).res a := by intro a; kernel_rfl
theorem l4Crash_ok (n : Nat) : FCall Inv Try.prog (l4Crash_fc n) := fun G hG => ⟨⟨by kernel_rfl, fun a r h => main_ok (c := bodyOf Try.f3) Try.func3 (by kernel_rfl) (by kernel_rfl) (Nat.le_of_ble_eq_true (by kernel_rfl)) hG.st (by kernel_rfl) (rs := [.tmp 2]) (by kernel_rfl) (l4Crash_ctok n hG) (lts := l4Crash_lts n) (fun F hF hFG => have hK : Know Inv F.G := hFG ▸ hG; (lok_of fun j L h1 h2 h3 => absurd h2 (Nat.not_lt.2 (Nat.le_trans (by decide +kernel) h1)))) l4Crash_dr ((l4Crash_eq n a).symm.trans h)⟩, rfl⟩
end Go.Proofs.Ytabmdijfholakaa.AM

/- Layer 4: what the laws come to is true: what is alike, starts, a region apart. -/
namespace Go.Proofs
open Go.RowKit
set_option linter.unusedVariables false
set_option linter.unusedSimpArgs false
namespace Ytabmdijfholakaa.AM
theorem i64_of {n : Int} (h : (Lit.int .i64 n).wf = true) : -9223372036854775808 ≤ n ∧ n ≤ 9223372036854775807 := by
  simp [Lit.wf, IntKind.min, IntKind.max, IntKind.signed, IntKind.bits] at h
  omega
theorem logS_alike {B X : BL} {f z : Nat} (hz : 1 ≤ z) (hB : f + z ≤ B.length) (hX : f + z ≤ X.length) (h : alike B X f (f + z)) :
    genB X f = genB B f ∧ (begP X f ↔ begP B f) ∧ logS X f z = logS B f z ∧ ∀ lo g q, f ≤ lo → (cleanP X lo (f + z) g q ↔ cleanP B lo (f + z) g q) := by
  have e0 := h f (Nat.le_refl _) (by omega)
  have eg : genB X f = genB B f := by unfold genB; rw [e0]
  have hle : (logS B f z).2 ≤ f + z := openS_le _ _ _ (by omega)
  have hge : f + 1 ≤ (logS B f z).2 := openS_ge _ _ _
  refine ⟨eg, ?_, ?_, fun lo g q hlo => ?_⟩
  · unfold begP; rw [eg, e0]
  · have h1 := openS_alike (g := genB B f) hB hX (z - 1) (f + 1) [] (by omega) (fun j h1 h2 => h j (by omega) (by unfold logS at hle; omega))
    have hst := openS_stop (B := B) (e := f + z) (g := genB B f) (z - 1) (f + 1) [] (by omega)
    unfold logS at hge hle ⊢
    rw [eg, h1, openS_end]
    intro hr
    have hen : _ ≤ f + z := hr.2.2.2.2.2.1
    exact hst (recP_alike hX hB hr (fun j h1 h2 => (h j (by omega) (by omega)).symm)).1
  · exact ⟨fun hc j h1 h2 => by rw [h j (by omega) h1]; exact hc j h1 h2, fun hc j h1 h2 => by rw [← h j (by omega) h1]; exact hc j h1 h2⟩
theorem settle_prefix (keep : Nat → Bool) (B : BL) (c x : List DM.Wr) : ∀ k, k ≤ c.length → DM.settleK keep B (c ++ x) k = DM.settleK keep B c k
  | 0, _ => rfl
  | k + 1, h => by
    have ih := settle_prefix keep B c x k (by omega)
    unfold DM.settleK
    have hg : (c ++ x).getD k (0, ⟨#[]⟩) = c.getD k (0, ⟨#[]⟩) := by
      rw [List.getD_eq_getElem?_getD, List.getD_eq_getElem?_getD, List.getElem?_append_left (by omega)]
    rw [ih, hg]
theorem flat_add (D : DM.Dk) (i : Int) (s : ByteArray) : flat (DM.addW D i s) = (flat D).set i.toNat (DM.fillB s) := by
  unfold flat DM.addW
  simp only [List.length_append, List.length_cons, List.length_nil]
  conv => lhs; unfold DM.settleK
  rw [if_pos rfl, settle_prefix _ _ _ _ _ (Nat.le_refl _)]
  have hg : (D.cache ++ [(i, DM.fillB s)]).getD D.cache.length (0, ⟨#[]⟩) = (i, DM.fillB s) := by
    rw [List.getD_eq_getElem?_getD, List.getElem?_append_right (Nat.le_refl _)]; simp
  rw [hg]
theorem flat_nil (B : BL) : flat ⟨B, []⟩ = B := rfl
theorem small_len {D : DM.Dk} (h : DM.smallD D) : D.secs.length ≤ 600 ∧ D.cache.length ≤ 200 := ⟨h.1.1, h.2.1⟩
theorem dk_len (d : DkT) : (dkOf d).secs.length = d.1.length ∧ (dkOf d).cache.length = d.2.length := by unfold dkOf; simp
theorem smD_dk {d : DkT} (h1 : (dkOf d).secs.length ≤ 1000000) (h2 : (dkOf d).cache.length ≤ 1000000) : smD d := by rw [(dk_len d).1] at h1; rw [(dk_len d).2] at h2; exact ⟨h1, h2⟩
theorem smD_of' {D : DM.Dk} (h1 : D.secs.length ≤ 1000000) (h2 : D.cache.length ≤ 1000000) : smD (ofDk D) := smD_dk (by rw [dkOf_ofDk]; exact h1) (by rw [dkOf_ofDk]; exact h2)
theorem lies_spec (n : Nat) (d : DkT) (hd : smD d) (f z : Int) (h1 : -9223372036854775808 ≤ f) (h2 : f ≤ 9223372036854775807) : r4Lies_t n d (f, z) = some (decide (secOk (dkOf d) f z)) := by
  unfold r4Lies_t r4Chk_t secOk chk
  simp only
  by_cases c1 : 0 ≤ f
  case neg => simp [c1]
  by_cases c2 : 2 ≤ z
  case neg => simp [c1, c2]
  by_cases c3 : z ≤ 512
  case neg =>
    have : ¬ z ≤ 512 - f := by omega
    simp [c1, c2, c3, this]
  rw [decide_eq_true c1, decide_eq_true c2, decide_eq_true c3, cond_true, cond_true, cond_true, wrap64 (by omega) (by omega), letO_some]
  by_cases c4 : f ≤ 512 - z
  case neg =>
    have : ¬ z ≤ 512 - f := by omega
    simp [c4, this]
  have c5 : z ≤ 512 - f := by omega
  rw [decide_eq_true c4, Option.bind_some, cond_true]
  unfold rmay_t
  rw [if_pos hd, Option.bind_some]
  by_cases c6 : DM.mayD (dkOf d)
  · rw [decide_eq_true c6, cond_true, wrap64 (by omega) (by omega), letO_some]
    simp [c1, c2, c5, c6, (dk_len d).1]
  · simp [c6]
theorem sam3_spec {a b : List (List UInt8)} (h1 : a.length ≤ 100000) (h2 : b.length ≤ 100000) : jrsam3_t a b = some (decide (a = b)) := by unfold jrsam3_t; rw [if_pos ⟨h1, h2⟩]
theorem logS_in {B : BL} {f z : Nat} (hz : 1 ≤ z) (h : f + z ≤ 512) : f + 1 ≤ (logS B f z).2 ∧ (logS B f z).2 ≤ f + z ∧ (logS B f z).1.length ≤ 512 := by
  have h1 : f + 1 ≤ (logS B f z).2 := openS_ge _ _ _
  have h2 : (logS B f z).2 ≤ f + z := openS_le _ _ _ (by omega)
  have h3 : (logS B f z).1.length ≤ (logS B f z).2 := openS_len _ _ _ (by simp)
  exact ⟨h1, h2, by omega⟩
theorem same_log (n : Nat) (B : BL) (f z : Nat) (hz : 1 ≤ z) (h : f + z ≤ 512) : r4Same_t n (logT B f z) (logT B f z) = some true := by
  have hl := (logS_in (B := B) hz h).2.2
  unfold r4Same_t
  simp only [decide_true, cond_true]
  unfold logT
  simp only
  rw [sam3_spec (by rw [List.length_map]; omega) (by rw [List.length_map]; omega), decide_eq_true rfl]; rfl
theorem put_ok' (d : DkT) (hd : smD d) (i : Int) (s : List UInt8) (hs : s.length ≤ maxLen) : put_t d i s = some (ofDk (DM.putD (dkOf d) i (ba s)), DM.putE (dkOf d) i (ba s)) := by unfold put_t; rw [if_pos ⟨hd, hs⟩]
/-- the answers of Open and Clean, of any region -/
theorem open_clean (n : Nat) (hn : 600 ≤ n) (d : DkT) (hd : smD d) (f z : Nat) (h : secOk (dkOf d) (f : Int) (z : Int)) :
    (begP (flat (dkOf d)) f → jOpen_t n d ((f : Int), (z : Int)) = some (logT (flat (dkOf d)) f z, 0) ∧ jClean_t n d ((f : Int), (z : Int)) (logT (flat (dkOf d)) f z) = some (decide (cleanP (flat (dkOf d)) (logS (flat (dkOf d)) f z).2 (f + z) (genB (flat (dkOf d)) f) (logS (flat (dkOf d)) f z).1.length))) ∧
    (¬ begP (flat (dkOf d)) f → jOpen_t n d ((f : Int), (z : Int)) = some ((0, ([], 0)), 5) ∧ jClean_t n d ((f : Int), (z : Int)) (0, ([], 0)) = some (decide (cleanP (flat (dkOf d)) f (f + z) 0 0))) := by
  have ho := open_spec n hn d hd f z h
  obtain ⟨⟨c1, c2, c3⟩, hm, hl⟩ := id h
  have hin := logS_in (B := flat (dkOf d)) (f := f) (z := z) (by omega) (by omega)
  refine ⟨fun hb => ?_, fun hb => ?_⟩
  · rw [if_pos hb] at ho
    refine ⟨ho, ?_⟩
    unfold logT
    rw [clean_spec n hn d hd f z _ _ _ (by omega) h, List.length_map, Nat.max_eq_left (by omega)]
  · rw [if_neg hb] at ho
    refine ⟨ho, ?_⟩
    have := clean_spec n hn d hd f z 0 [] 0 (by omega) h
    rw [Nat.zero_max] at this
    exact this
theorem l4live_true : l4live_t 700 = some true := by decide +kernel
theorem l4Apart_true (d : DkT) (r : Int × Int) (w : Int × List UInt8) (_ : okDen (.prod (.lst .str) (.lst (.prod (.int .i64) .str))) d) (hr : okDen (.prod (.int .i64) (.int .i64)) r) (hw : okDen (.prod (.int .i64) .str) w) : l4Apart_t 700 d r w = some true := by
  obtain ⟨f, z⟩ := r
  obtain ⟨at', s⟩ := w
  have hf := i64_of hr.1
  have hM := max_eq
  unfold l4Apart_t small_t
  rw [l4live_true, Option.bind_some]
  by_cases c0 : DM.smallD (dkOf d)
  case neg => simp only [c0, decide_false, Bool.not_false, cond_true, Option.bind_some]
  have hlen := small_len c0
  have hd : smD d := smD_dk (by omega) (by omega)
  simp only [c0, decide_true, Bool.not_true, cond_false, Option.bind_some]
  by_cases c1 : (32 : Int) < ((s.length : Nat) : Int)
  · rw [decide_eq_true c1, cond_true]
  rw [decide_eq_false c1, cond_false, lies_spec 700 d hd f z hf.1 hf.2, Option.bind_some]
  by_cases c2 : secOk (dkOf d) f z
  case neg => rw [decide_eq_false c2, Bool.not_false, cond_true]
  rw [decide_eq_true c2, Bool.not_true, cond_false]
  obtain ⟨f', z', rfl, rfl, h512, h2z, hlz, hm⟩ := secOk_nat c2
  rw [put_ok' d hd at' s (by omega)]
  have key : ¬ ((f' : Int) ≤ at' ∧ at' < (f' : Int) + (z' : Int)) → (some (ofDk (DM.putD (dkOf d) at' (ba s)), DM.putE (dkOf d) at' (ba s))).bind (fun r8 => bif !decide (r8.2 = (0 : Int)) then some true else (jOpen_t 700 d ((f' : Int), (z' : Int))).bind fun r10 => (jOpen_t 700 r8.1 ((f' : Int), (z' : Int))).bind fun r11 => (l4told_t 700 r10.1).bind fun r12 => (l4told_t 700 r11.1).bind fun r13 => (r4Same_t 700 r12 r13).bind fun r14 => (bif r14 then (bif decide (r10.2 = r11.2) then (jClean_t 700 d ((f' : Int), (z' : Int)) r10.1).bind fun r15 => (jClean_t 700 r8.1 ((f' : Int), (z' : Int)) r11.1).bind fun r16 => (bif decide (r15 = r16) then some true else some false) else some false) else some false)) = some true := by
    intro hout
    rw [Option.bind_some]
    by_cases c3 : DM.putE (dkOf d) at' (ba s) = 0
    case neg => simp only [c3, decide_false, Bool.not_false, cond_true]
    obtain ⟨_, hin, hs32, hput⟩ := DM.put_zero c3
    simp only [c3, decide_true, Bool.not_true, cond_false]
    rw [hput]
    have hmX : DM.mayD (DM.addW (dkOf d) at' (ba s)) := DM.may_add hm hin hs32
    have hX : smD (ofDk (DM.addW (dkOf d) at' (ba s))) := smD_of' (by show (dkOf d).secs.length ≤ _; omega) (by show ((dkOf d).cache ++ [_]).length ≤ _; simp; omega)
    have sX : secOk (dkOf (ofDk (DM.addW (dkOf d) at' (ba s)))) (f' : Int) (z' : Int) := by rw [dkOf_ofDk]; exact ⟨c2.1, hmX, c2.2.2⟩
    have oc1 := open_clean 700 (by omega) d hd f' z' c2
    have oc2 := open_clean 700 (by omega) _ hX f' z' sX
    rw [dkOf_ofDk, flat_add] at oc2
    have hfl := flat_len (dkOf d)
    have hin1 := hin.1
    have hal : alike (flat (dkOf d)) ((flat (dkOf d)).set at'.toNat (DM.fillB (ba s))) f' (f' + z') := fun j h1 h2 => by
      rw [gB_set, if_neg (fun h => hout (by omega))]
    obtain ⟨e1, e2, e3, e4⟩ := logS_alike (by omega) (by omega) (by rw [List.length_set]; omega) hal
    have hin2 := logS_in (B := flat (dkOf d)) (f := f') (z := z') (by omega) h512
    by_cases cb : begP (flat (dkOf d)) f'
    · obtain ⟨o1, o2⟩ := oc1.1 cb
      obtain ⟨o3, o4⟩ := oc2.1 (e2.2 cb)
      have eT : logT ((flat (dkOf d)).set at'.toNat (DM.fillB (ba s))) f' z' = logT (flat (dkOf d)) f' z' := by unfold logT; rw [e1, e3]
      rw [eT] at o3 o4
      rw [e1, e3] at o4
      rw [o1, o3]
      simp only [Option.bind_some, l4told_t, same_log 700 _ f' z' (by omega) h512, decide_true, cond_true]
      rw [o2, o4]
      simp only [Option.bind_some, e4 (logS (flat (dkOf d)) f' z').2 _ _ (by omega), decide_true, cond_true]
    · obtain ⟨o1, o2⟩ := oc1.2 cb
      obtain ⟨o3, o4⟩ := oc2.2 (fun h => cb (e2.1 h))
      rw [o1, o3]
      have es : r4Same_t 700 ((0 : Int), (([] : List (List UInt8)), (0 : Int))) ((0 : Int), (([] : List (List UInt8)), (0 : Int))) = some true := by decide +kernel
      simp only [Option.bind_some, l4told_t, es, decide_true, cond_true]
      rw [o2, o4]
      simp only [Option.bind_some, e4 _ _ _ (Nat.le_refl f'), decide_true, cond_true]
  by_cases c4 : (f' : Int) ≤ at'
  · rw [decide_eq_true c4, cond_true, wrap_add (by omega) (by omega), letO_some]
    by_cases c5 : at' < ((f' + z' : Nat) : Int)
    · rw [decide_eq_true c5, cond_true]
    · rw [decide_eq_false c5, cond_false]
      exact key (by omega)
  · rw [decide_eq_false c4, cond_false]
    exact key (by omega)
end Ytabmdijfholakaa.AM
end Go.Proofs

/- Layer 4: what the laws come to is true: an addition that is cut off. -/
namespace Go.Proofs
open Go.RowKit
set_option linter.unusedVariables false
set_option linter.unusedSimpArgs false
namespace Ytabmdijfholakaa.AM
theorem mm_toNat (x : Int) (l : Nat) : ((min (max x 0) (l : Int)).toNat : Int) = min (max x 0) (l : Int) := by omega
/-- acts of an addition, as far as they are done -/
theorem run_acts (d : DkT) (hs : (dkOf d).secs.length ≤ 1000) (hc : (dkOf d).cache.length ≤ 1000) (l : List DM.Ac) (hl : l.length ≤ 1000) (hsz : ∀ a ∈ l, a.2.2.size ≤ 32) (x : Int) : jrun_t d (acTo l) x = some (ofDk (DM.runD (dkOf d) (l.take (min (max x 0) (l.length : Int)).toNat)), DM.runE (dkOf d) (l.take (min (max x 0) (l.length : Int)).toNat)) := by
  unfold jrun_t
  rw [if_pos, acOf_to, acTo_len]
  refine ⟨?_, ?_⟩
  · unfold smR; rw [← (dk_len d).1, ← (dk_len d).2]; omega
  · refine ⟨by rw [acTo_len]; omega, fun a ha => ?_⟩
    unfold acTo at ha
    obtain ⟨b, hb, rfl⟩ := List.mem_map.1 ha
    have := hsz b hb
    show (unB b.2.2).length ≤ 1000
    have e : (unB b.2.2).length = b.2.2.size := unB_length _
    omega
theorem addL_size {nx : Nat} {p h : ByteArray} (hh : h.size = 32) : ∀ a ∈ addL nx p h, a.2.2.size ≤ 32 := fun a ha => by
  rcases List.mem_append.1 ha with h1 | h1
  · obtain ⟨i, hi, rfl⟩ := List.mem_map.1 h1
    simp only [RM.sec_size]; omega
  · simp only [List.mem_cons, List.not_mem_nil, or_false] at h1
    rcases h1 with rfl | rfl | rfl
    · exact Nat.zero_le _
    · simp only [hh]; omega
    · exact Nat.zero_le _
theorem secOk_of' {B X : BL} {f z : Nat} (h : secOk ⟨B, []⟩ (f : Int) (z : Int)) (hm : DM.mayD ⟨X, []⟩) (hl : X.length = B.length) : secOk ⟨X, []⟩ (f : Int) (z : Int) := ⟨h.1, hm, by have := h.2.2; show _ ≤ (X.length : Int); rw [hl]; exact this⟩
theorem l4Crash_true (c : List (List UInt8) × (List (Int × List UInt8) × (Int × (Int × (List UInt8 × (Int × List Bool)))))) (hc : okDen (.prod (.lst .str) (.prod (.lst (.prod (.int .i64) .str)) (.prod (.int .i64) (.prod (.int .i64) (.prod .str (.prod (.int .i64) (.lst .bool))))))) c) : l4Crash_t 700 c = some true := by
  obtain ⟨secs, cache, f, z, p, dn, keep⟩ := c
  have hf := i64_of hc.2.2.1
  have hM := max_eq
  unfold l4Crash_t small_t
  rw [l4live_true]
  simp only [Option.bind_some]
  by_cases c0 : DM.smallD (dkOf (secs, cache))
  case neg => simp only [c0, decide_false, Bool.not_false, cond_true]
  have hlen := small_len c0
  have hd : smD (secs, cache) := smD_dk (by omega) (by omega)
  simp only [c0, decide_true, Bool.not_true, cond_false]
  by_cases c1 : (0 : Int) < ((cache.length : Nat) : Int)
  · rw [decide_eq_true c1, cond_true]
  have hc0 : cache = [] := List.eq_nil_of_length_eq_zero (by omega)
  subst hc0
  rw [decide_eq_false c1, cond_false]
  by_cases c2 : (1000 : Int) < ((keep.length : Nat) : Int)
  · rw [decide_eq_true c2, cond_true]
  rw [decide_eq_false c2, cond_false]
  by_cases c3 : secOk (dkOf (secs, [])) f z
  case neg =>
    rw [open_bad 700 _ hd f z hf.1 hf.2 c3, Option.bind_some]
    simp
  obtain ⟨f', z', rfl, rfl, h512, h2z, hlz, hm⟩ := secOk_nat c3
  obtain ⟨B, hB⟩ : ∃ B, secs.map ba = B := ⟨_, rfl⟩
  have eD : dkOf (secs, []) = ⟨B, []⟩ := by rw [← hB]; rfl
  have oc := open_clean 700 (by omega) (secs, []) hd f' z' c3
  rw [eD] at oc hm hlz c3 hlen
  rw [flat_nil] at oc
  have hlz' : f' + z' ≤ B.length := hlz
  have hBl : B.length ≤ 600 := hlen.1
  by_cases cb : begP B f'
  case neg =>
    rw [(oc.2 cb).1, Option.bind_some]
    simp
  obtain ⟨o1, o2⟩ := oc.1 cb
  rw [o1, Option.bind_some]
  simp only [decide_true, Bool.not_true, cond_false]
  rw [o2, Option.bind_some]
  by_cases ccl : cleanP B (logS B f' z').2 (f' + z') (genB B f') (logS B f' z').1.length
  case neg => rw [decide_eq_false ccl, Bool.not_false, cond_true]
  rw [decide_eq_true ccl, Bool.not_true, cond_false]
  obtain ⟨i1, i2, i3⟩ := logS_in (B := B) (f := f') (z := z') (by omega) h512
  have hgen := genB_in B f'
  have hadd := add_spec 700 (by omega) f' z' (logS B f' z').2 (genB B f') ((logS B f' z').1.map unB) p h512 h2z (by omega) i2 hgen (by rw [List.length_map]; omega)
  rw [List.length_map] at hadd
  have hlogT : logT B f' z' = (genB B f', ((logS B f' z').1.map unB, ((logS B f' z').2 : Int))) := rfl
  rw [hlogT, hadd, Option.bind_some]
  by_cases c4 : 4096 < p.length
  · rw [if_pos c4]
    simp
  rw [if_neg c4]
  by_cases c5 : f' + z' < (logS B f' z').2 + 1 + RM.cutN (ba p)
  · rw [if_pos c5]
    simp
  rw [if_neg c5]
  simp only [decide_true, Bool.not_true, cond_false]
  have hps : (ba p).size = p.length := ba_len p
  have htx := txB_size (q := (logS B f' z').1.length) (p := ba p) hgen (by omega) (by omega)
  obtain ⟨tx, htxe⟩ : ∃ tx, txB (genB B f') (logS B f' z').1.length (ba p) = tx := ⟨_, rfl⟩
  rw [htxe] at htx ⊢
  have hk := RM.cutN_le (ba p)
  have hal := addL_len (logS B f' z').2 (ba p) tx
  rw [run_acts (secs, []) (by rw [eD]; show B.length ≤ _; omega) (by rw [eD]; exact Nat.zero_le _) _ (by omega) (addL_size htx) dn, Option.bind_some, acTo_len, hal, eD]
  obtain ⟨N, hN⟩ : ∃ N, (min (max dn 0) (((RM.cutN (ba p) + 3 : Nat)) : Int)).toNat = N := ⟨_, rfl⟩
  have hN' := mm_toNat dn (RM.cutN (ba p) + 3)
  rw [hN] at hN' ⊢
  have hok : ∀ a ∈ (addL (logS B f' z').2 (ba p) tx).take N, DM.actOk (DM.Dk.mk B []).secs.length a := fun a ha => addL_ok (n := B.length) (by omega) htx a (List.mem_of_mem_take ha)
  obtain ⟨r1, r2, r3⟩ := run_good hm hok
  rw [r1, r2]
  obtain ⟨X, x1, x2, x3, x4, -⟩ := add_crash B (logS B f' z').2 (ba p) tx N (fun j => keep.getD j false) (by omega) htx
  have hRl : (DM.runK ⟨B, []⟩ ((addL (logS B f' z').2 (ba p) tx).take N)).secs.length = B.length := DM.runK_len _ _
  have hRc := DM.runK_cache ⟨B, []⟩ ((addL (logS B f' z').2 (ba p) tx).take N)
  have hRc2 : ((addL (logS B f' z').2 (ba p) tx).take N).length ≤ RM.cutN (ba p) + 3 := by rw [List.length_take]; omega
  have hRc3 : (DM.Dk.mk B []).cache.length = 0 := rfl
  generalize DM.runK ⟨B, []⟩ ((addL (logS B f' z').2 (ba p) tx).take N) = R at *
  have hX : DM.crashD (fun j => keep.getD j false) R = ⟨X, []⟩ := by unfold DM.crashD; rw [if_pos r3]; exact x1
  have hmX : DM.mayD ⟨X, []⟩ := by rw [← x1]; exact DM.may_settle r3 _
  have g1 : crash_t (ofDk R) keep = some (ofDk ⟨X, []⟩, 0) := by
    unfold crash_t
    rw [if_pos ⟨smD_of' (by omega) (by omega), by omega⟩, dkOf_ofDk, hX]
    unfold DM.argE; rw [if_pos r3]
  rw [g1]
  simp only [Option.bind_some, decide_true, Bool.not_true, cond_false]
  have hXl : X.length = B.length := by rcases x4 with h | h <;> exact h.1
  have sX : secOk (dkOf (ofDk ⟨X, []⟩)) (f' : Int) (z' : Int) := by rw [dkOf_ofDk]; exact secOk_of' c3 hmX hXl
  have ocX := open_clean 700 (by omega) (ofDk ⟨X, []⟩) (smD_of' (by show X.length ≤ _; omega) (Nat.zero_le _)) f' z' sX
  rw [dkOf_ofDk, flat_nil] at ocX
  have hitsl : ((logS B f' z').1.map unB).length ≤ 512 := by rw [List.length_map]; omega
  have happ1 : appO 16 ([] : List (List UInt8)) ((logS B f' z').1.map unB) = some ((logS B f' z').1.map unB) := by rw [app_le (by simp; omega), List.nil_append]
  have happ2 : appO 16 ((logS B f' z').1.map unB) [p] = some ((logS B f' z').1.map unB ++ [p]) := by rw [app_le (by simp; omega)]
  have w2 : IntKind.wrap .i64 (((RM.cutN (ba p) + 3 : Nat) : Int) - 2) = ((RM.cutN (ba p) + 1 : Nat) : Int) := by rw [wrap64 (by omega) (by omega)]; omega
  by_cases hA : condA B X (logS B f' z').2 (RM.cutN (ba p)) (ba p) ∧ ¬ (((RM.cutN (ba p) + 3 : Nat) : Int) ≤ dn)
  · obtain ⟨l1, l2, l3, l4⟩ := was_log (by omega) hlz' ccl hA.1
    obtain ⟨o3, o4⟩ := ocX.1 (l2 cb)
    have eT : logT X f' z' = logT B f' z' := by unfold logT; rw [l1, l3]
    rw [eT, hlogT] at o3 o4
    rw [o3]
    simp only [Option.bind_some, decide_true, Bool.not_true, cond_false]
    rw [o4]
    simp only [Option.bind_some, l4, decide_true, Bool.not_true, cond_false]
    rw [sam3_spec (by omega) (by omega), Option.bind_some, decide_eq_true rfl, cond_true, happ1, Option.bind_some, happ2, Option.bind_some, sam3_spec (by omega) (by simp; omega), Option.bind_some, decide_eq_false hA.2, cond_false, w2, letO_some]
    simp
  · have hB2 : condB B X (logS B f' z').2 (RM.cutN (ba p)) (ba p) tx ∧ ¬ (dn ≤ ((RM.cutN (ba p) + 1 : Nat) : Int)) := by
      by_cases h1 : ((RM.cutN (ba p) + 3 : Nat) : Int) ≤ dn
      · exact ⟨x3 (by omega), by omega⟩
      · refine ⟨(x4.resolve_left fun h => hA ⟨h, h1⟩), fun h => hA ⟨x2 (by omega), h1⟩⟩
    have hB3 := hB2.1
    rw [← htxe] at hB3
    obtain ⟨l1, l2, l3, l4⟩ := has_log (by omega) hlz' ccl (by omega) (by omega) (by omega) hB3
    obtain ⟨o3, o4⟩ := ocX.1 (l2 cb)
    rw [o3]
    simp only [Option.bind_some, decide_true, Bool.not_true, cond_false]
    rw [o4]
    have eT : logT X f' z' = (genB B f', ((logS B f' z').1.map unB ++ [p], (((logS B f' z').2 + 1 + RM.cutN (ba p) : Nat) : Int))) := by
      unfold logT; rw [l1, l3, List.map_append]
      simp only [List.map_cons, List.map_nil, unB_ba]
    rw [eT]
    simp only [Option.bind_some, l4, decide_true, Bool.not_true, cond_false]
    have hne : ¬ ((logS B f' z').1.map unB ++ [p] = (logS B f' z').1.map unB) := fun h => by
      have := congrArg List.length h
      simp at this
    rw [sam3_spec (by simp; omega) (by omega), Option.bind_some, decide_eq_false hne, cond_false, happ1, Option.bind_some, happ2, Option.bind_some, sam3_spec (by simp; omega) (by simp; omega), Option.bind_some, decide_eq_true rfl]
    by_cases h1 : ((RM.cutN (ba p) + 3 : Nat) : Int) ≤ dn
    · rw [decide_eq_true h1, cond_true, cond_true]
    · rw [decide_eq_false h1, cond_false, w2, letO_some, decide_eq_false hB2.2, cond_false, cond_true]
end Ytabmdijfholakaa.AM
end Go.Proofs

/- Layer 4: what the laws come to is true: starts, and rows of additions. -/
namespace Go.Proofs
open Go.RowKit
set_option linter.unusedVariables false
set_option linter.unusedSimpArgs false
namespace Ytabmdijfholakaa.AM
theorem start_run {D : DM.Dk} (hm : DM.mayD D) {f : Nat} {t : ByteArray} (hf : f < D.secs.length) (ht : t.size = 32) :
    DM.runE D [(false, (f : Int), t), flA] = 0 ∧ DM.runD D [(false, (f : Int), t), flA] = ⟨(flat D).set f t, []⟩ ∧ DM.mayD ⟨(flat D).set f t, []⟩ := by
  have hok : ∀ a ∈ [((false, (f : Int), t) : DM.Ac), flA], DM.actOk D.secs.length a := fun a ha => by
    simp only [List.mem_cons, List.not_mem_nil, or_false] at ha
    rcases ha with rfl | rfl
    · refine Or.inr ?_
      unfold DM.writeE
      rw [if_pos ⟨by simp only; omega, by simp only; omega⟩, if_neg (by simp only [ht]; omega)]
    · exact Or.inl rfl
  obtain ⟨r1, r2, r3⟩ := run_good hm hok
  have e : DM.runK D [(false, (f : Int), t), flA] = ⟨(flat D).set f t, []⟩ := by
    show DM.settleD (fun _ => true) (DM.addW D f t) = _
    have := flat_add D f t
    rw [fill_32 ht, Int.toNat_natCast] at this
    unfold DM.settleD
    unfold flat at this ⊢
    rw [this]
  exact ⟨r1, by rw [r2, e], by rw [← e]; exact r3⟩
def startT (f : Nat) (g : Int) : AcT := [(false, ((f : Int), unB (RM.textB 1 g 0 0 1))), (true, (0, []))]
theorem beg_size {g : Int} (h : 0 ≤ g ∧ g ≤ 1073741824) : (RM.textB 1 g 0 0 1).size = 32 := by rw [RM.textB_yes _ _ _ _ _ (may_beg h)]; rfl
theorem run_start (d : DkT) (hm : DM.mayD (dkOf d)) (hs : (dkOf d).secs.length ≤ 1000) (hc : (dkOf d).cache.length ≤ 1000) (f : Nat) (g : Int) (hg : 0 ≤ g ∧ g ≤ 1073741824) (hf : f < (dkOf d).secs.length) :
    jrun_t d (startT f g) 2 = some (ofDk ⟨(flat (dkOf d)).set f (RM.textB 1 g 0 0 1), []⟩, 0) ∧ DM.mayD ⟨(flat (dkOf d)).set f (RM.textB 1 g 0 0 1), []⟩ := by
  have e : startT f g = acTo [(false, (f : Int), RM.textB 1 g 0 0 1), flA] := rfl
  obtain ⟨r1, r2, r3⟩ := start_run hm hf (beg_size hg)
  refine ⟨?_, r3⟩
  rw [e, run_acts d hs hc _ (by simp) (fun a ha => ?_) 2]
  · have e2 : (min (max (2 : Int) 0) (([(false, (f : Int), RM.textB 1 g 0 0 1), flA] : List DM.Ac).length : Int)).toNat = 2 := by
      show (min (max (2 : Int) 0) (2 : Int)).toNat = 2
      decide
    rw [e2]
    show some (ofDk (DM.runD (dkOf d) [(false, (f : Int), RM.textB 1 g 0 0 1), flA]), DM.runE (dkOf d) [(false, (f : Int), RM.textB 1 g 0 0 1), flA]) = _
    rw [r1, r2]
  · simp only [List.mem_cons, List.not_mem_nil, or_false] at ha
    rcases ha with rfl | rfl
    · simp only [beg_size hg]; omega
    · exact Nat.zero_le _
theorem fresh_log {S : BL} {f z : Nat} {g : Int} (hg : 0 ≤ g ∧ g ≤ 1073741824) (hb : gB S f = RM.textB 1 g 0 0 1) (hno : ∀ j, f + 1 ≤ j → j < f + z → ¬ (RM.readOk (gB S j) ∧ RM.numAt (gB S j) 2 = g)) :
    logS S f z = ([], f + 1) ∧ cleanP S (f + 1) (f + z) g 0 := by
  have eg := genB_text hg hb
  refine ⟨?_, fun j h1 h2 hbad => hno j h2 h1 ⟨hbad.1, hbad.2.2.1⟩⟩
  unfold logS
  rw [eg, openS_end]
  exact no_rec (q := 0) (fun h hbad => hno (f + 1) (Nat.le_refl _) h ⟨hbad.1, hbad.2.2.1⟩)
/-! rows of additions -/
theorem newD_nat {n : Nat} (h1 : 1 ≤ n) (h2 : n ≤ 512) : DM.newD (n : Int) = ⟨List.replicate n DM.zeroS, []⟩ := by
  unfold DM.newD; rw [if_pos ⟨by omega, by omega⟩, Int.toNat_natCast]
theorem zero_size : DM.zeroS.size = 32 := by decide
theorem zero_not : ¬ RM.readOk DM.zeroS := by decide +kernel
theorem may_new' {n : Nat} (h1 : 1 ≤ n) (h2 : n ≤ 512) : DM.mayD ⟨List.replicate n DM.zeroS, []⟩ := by
  refine ⟨by simpa using h1, by simpa using h2, fun s hs => ?_, fun p hp => by cases hp⟩
  rw [(List.mem_replicate.1 hs).2]; exact zero_size
/-- a disk whose log is these items -/
structure rowI (B : BL) (z : Nat) (g : Int) (its : BL) : Prop where
  may : DM.mayD ⟨B, []⟩
  len : B.length = z
  gen : genB B 0 = g
  beg : begP B 0
  log : (logS B 0 z).1 = its
  cl : cleanP B (logS B 0 z).2 (0 + z) g its.length
theorem row_open {B : BL} {z : Nat} {g : Int} {its : BL} (h : rowI B z g its) (hz : 2 ≤ z) (hz2 : z ≤ 300) : jOpen_t 700 (ofDk ⟨B, []⟩) ((0 : Int), (z : Int)) = some ((g, (its.map unB, ((logS B 0 z).2 : Int))), 0) := by
  have hB : smD (ofDk ⟨B, []⟩) := smD_of' (by show B.length ≤ _; rw [h.len]; omega) (Nat.zero_le _)
  have s : secOk (dkOf (ofDk ⟨B, []⟩)) ((0 : Nat) : Int) (z : Int) := by
    rw [dkOf_ofDk]
    exact secOk_of (by omega) hz (by show 0 + z ≤ B.length; rw [h.len]; omega) h.may
  have oc := open_clean 700 (by omega) (ofDk ⟨B, []⟩) hB 0 z s
  rw [dkOf_ofDk, flat_nil] at oc
  have := (oc.1 h.beg).1
  unfold logT at this
  rw [h.gen, h.log] at this
  exact this
theorem row_loop (z : Nat) (hz : 2 ≤ z) (hz2 : z ≤ 300) (g : Int) (hg : 0 ≤ g ∧ g ≤ 1073741824) (l : List (List UInt8)) (hl : l.length ≤ 12) : ∀ (m i : Nat) (B : BL) (its : BL), l.length - i < m → rowI B z g its → its.length ≤ i → i ≤ l.length →
    l4Row_loop0 700 m (z : Int) g l (i : Int) (ofDk ⟨B, []⟩).1 (ofDk ⟨B, []⟩).2 (0 : Int) (z : Int) (its.map unB) = some (Sum.inl ((true, ()), ((), ()))) ∨
    ∃ B' its', rowI B' z g its' ∧ its'.length ≤ 12 ∧ l4Row_loop0 700 m (z : Int) g l (i : Int) (ofDk ⟨B, []⟩).1 (ofDk ⟨B, []⟩).2 (0 : Int) (z : Int) (its.map unB) = some (Sum.inr ((g, ((), ((), ((), ())))), ((((ofDk ⟨B', []⟩).1, (ofDk ⟨B', []⟩).2), (((0 : Int), (z : Int)), ())), (its'.map unB, ()))))
  | 0, i, B, its, h, _, _, _ => by omega
  | m + 1, i, B, its, hm, hI, hi, hil => by
    rw [l4Row_loop0_succ]
    unfold l4Row_l0
    rw [l4live_true]
    by_cases c : i < l.length
    case neg =>
      rw [decide_eq_false (by omega), cond_false]
      exact Or.inr ⟨B, its, hI, by omega, rfl⟩
    rw [decide_eq_true (by omega), cond_true, idx_lt c, Option.bind_some]
    by_cases c1 : (4096 : Int) < ((l[i].length : Nat) : Int)
    · rw [decide_eq_true c1, cond_true]; exact Or.inl rfl
    rw [decide_eq_false c1, cond_false]
    show (Option.bind (jOpen_t 700 (ofDk ⟨B, []⟩) ((0 : Int), (z : Int))) _ = _) ∨ _
    have hBl := hI.len
    obtain ⟨i1, i2, i3⟩ := logS_in (B := B) (f := 0) (z := z) (by omega) (by omega)
    have w1 : IntKind.wrap .i64 ((i : Int) + 1) = ((i + 1 : Nat) : Int) := wrap_succ (by omega)
    obtain ⟨p, hp⟩ : ∃ p, l[i] = p := ⟨_, rfl⟩
    rw [hp] at c1
    have hps : (ba p).size = p.length := ba_len p
    have hk := RM.cutN_le (ba p)
    have hct : RM.countF (p.length : Int) = (RM.cutN (ba p) : Int) := by rw [← hps]; exact RM.countF_cut _ (by omega)
    have hcount : jcount_t ((p.length : Nat) : Int) = some (RM.cutN (ba p) : Int) := by
      unfold jcount_t
      rw [if_pos (show i64B (p.length : Int) by unfold i64B; omega), hct]
    have hadd := add_spec 700 (by omega) 0 z (logS B 0 z).2 g (its.map unB) p (by omega) hz (by omega) i2 hg (by rw [List.length_map]; omega)
    rw [Int.natCast_zero, if_neg (by omega), List.length_map] at hadd
    obtain ⟨nx, hnx⟩ : ∃ nx, (logS B 0 z).2 = nx := ⟨_, rfl⟩
    have ho := row_open hI hz hz2
    rw [hnx] at hadd i1 i2 ho
    have w2 : IntKind.wrap .i64 ((1 : Int) + (RM.cutN (ba p) : Int)) = ((1 + RM.cutN (ba p) : Nat) : Int) := by rw [wrap64 (by omega) (by omega)]; omega
    have w3 : IntKind.wrap .i64 ((z : Int) - (nx : Int)) = ((z - nx : Nat) : Int) := by rw [wrap64 (by omega) (by omega)]; omega
    have hsame : jrsam3_t (its.map unB) (its.map unB) = some true := by rw [sam3_spec (by simp; omega) (by simp; omega), decide_eq_true rfl]
    rw [ho]
    simp only [Option.bind_some, hp, hadd]
    by_cases cf : 0 + z < nx + 1 + RM.cutN (ba p)
    · rw [if_pos cf]
      have hrun : jrun_t ((ofDk ⟨B, []⟩).1, (ofDk ⟨B, []⟩).2) [] ((([] : AcT).length : Nat) : Int) = some (ofDk ⟨B, []⟩, 0) := by
        have := run_acts (ofDk ⟨B, []⟩) (by rw [dkOf_ofDk]; show B.length ≤ _; omega) (by rw [dkOf_ofDk]; exact Nat.zero_le _) [] (by simp) (fun a ha => by cases ha) 0
        rw [dkOf_ofDk] at this
        have hz' : (([] : List DM.Ac).take (min (max (0 : Int) 0) ((([] : List DM.Ac).length : Nat) : Int)).toNat) = [] := by simp
        rw [hz'] at this
        obtain ⟨r1, r2, _⟩ := run_good (l := []) hI.may (fun a ha => by cases ha)
        rw [r1, r2] at this
        exact this
      have ih := row_loop z hz hz2 g hg l hl m (i + 1) B its (by omega) hI (by omega) (by omega)
      have hnf : ¬ (((1 + RM.cutN (ba p) : Nat) : Int) ≤ ((z - nx : Nat) : Int)) := by omega
      have h30 : decide ((3 : Int) = 0) = false := by decide
      rw [hrun]
      simp only [Option.bind_some, hcount, w2, w3, letO_some, decide_true, Bool.not_true, cond_false, hnf, decide_false, h30, hsame, w1]
      exact ih
    · rw [if_neg cf]
      have htx := txB_size (g := g) (q := its.length) (p := ba p) hg (by omega) (by omega)
      have hrun : ∃ X, jrun_t ((ofDk ⟨B, []⟩).1, (ofDk ⟨B, []⟩).2) (acTo (addL nx (ba p) (txB g its.length (ba p)))) (((acTo (addL nx (ba p) (txB g its.length (ba p)))).length : Nat) : Int) = some (ofDk ⟨X, []⟩, 0) ∧ DM.mayD ⟨X, []⟩ ∧ condB B X nx (RM.cutN (ba p)) (ba p) (txB g its.length (ba p)) := by
        have hal := addL_len nx (ba p) (txB g its.length (ba p))
        have := run_acts (ofDk ⟨B, []⟩) (by rw [dkOf_ofDk]; show B.length ≤ _; omega) (by rw [dkOf_ofDk]; exact Nat.zero_le _) (addL nx (ba p) (txB g its.length (ba p))) (by omega) (addL_size htx) (((acTo (addL nx (ba p) (txB g its.length (ba p)))).length : Nat) : Int)
        rw [dkOf_ofDk, acTo_len] at this
        have ht : (addL nx (ba p) (txB g its.length (ba p))).take (min (max (((addL nx (ba p) (txB g its.length (ba p))).length : Nat) : Int) 0) (((addL nx (ba p) (txB g its.length (ba p))).length : Nat) : Int)).toNat = addL nx (ba p) (txB g its.length (ba p)) := List.take_of_length_le (by omega)
        rw [ht] at this
        obtain ⟨r1, r2, r3⟩ := run_good hI.may (addL_ok (n := B.length) (nx := nx) (p := ba p) (h := txB g its.length (ba p)) (by omega) htx)
        obtain ⟨X, -, -, x3, -, x5⟩ := add_crash B nx (ba p) (txB g its.length (ba p)) (RM.cutN (ba p) + 3) (fun _ => true) (by omega) htx
        have x5 := x5 (Nat.le_refl _)
        rw [List.take_of_length_le (by omega)] at x5
        rw [r1, r2, x5] at this
        rw [x5] at r3
        refine ⟨X, ?_, r3, x3 (Nat.le_refl _)⟩
        rw [acTo_len]; exact this
      obtain ⟨X, hX1, hX2, hX3⟩ := hrun
      have hlog := has_log (B := B) (X := X) (f := 0) (z := z) (p := ba p) (by omega) (by omega) (by rw [hI.gen, hI.log]; exact hI.cl) (by omega) (by omega) (by rw [hnx]; omega) (by rw [hnx, hI.gen, hI.log]; exact hX3)
      obtain ⟨l1, l2, l3, l4⟩ := hlog
      have hI2 : rowI X z g (its ++ [ba p]) := ⟨hX2, by rw [hX3.1]; exact hBl, l1.trans hI.gen, l2 hI.beg, by rw [l3, hI.log], by
        have := l4
        rw [l1, hI.gen] at this
        have e : (logS X 0 z).1 = its ++ [ba p] := by rw [l3, hI.log]
        rw [← e]; exact this⟩
      have ih := row_loop z hz hz2 g hg l hl m (i + 1) X (its ++ [ba p]) (by omega) hI2 (by simp; omega) (by omega)
      have hf : (((1 + RM.cutN (ba p) : Nat) : Int) ≤ ((z - nx : Nat) : Int)) := by omega
      rw [hX1]
      have happ : appO 16 (its.map unB) [p] = some (its.map unB ++ [p]) := by rw [app_le (by simp; omega)]
      have em : (its ++ [ba p]).map unB = its.map unB ++ [p] := by rw [List.map_append]; simp [unB_ba]
      rw [em] at ih
      simp only [Option.bind_some, hcount, w2, w3, letO_some, decide_true, Bool.not_true, cond_false, hf, cond_true, hsame, idx_lt c, hp, happ, w1]
      exact ih
theorem l4Row_true (z g : Int) (l : List (List UInt8)) (_ : (Lit.int .i64 z).wf = true) (_ : (Lit.int .i64 g).wf = true) (_ : okDen (.lst .str) l) : l4Row_t 700 z g l = some true := by
  unfold l4Row_t
  rw [l4live_true]
  simp only [Option.bind_some]
  by_cases c1 : z < 2
  · simp [c1]
  by_cases c2 : 300 < z
  · simp [c1, c2]
  by_cases c3 : g < 0
  · simp [c1, c2, c3]
  by_cases c4 : 1073741824 < g
  · simp [c1, c2, c3, c4]
  by_cases c5 : (12 : Int) < ((l.length : Nat) : Int)
  · simp [c1, c2, c3, c4, c5]
  rw [decide_eq_false c1, decide_eq_false c2, decide_eq_false c3, decide_eq_false c4, decide_eq_false c5, cond_false, cond_false, cond_false, cond_false, cond_false]
  obtain ⟨z', rfl⟩ : ∃ z' : Nat, z = (z' : Int) := ⟨z.toNat, by omega⟩
  have hg : 0 ≤ g ∧ g ≤ 1073741824 := ⟨by omega, by omega⟩
  have hm := may_new' (n := z') (by omega) (by omega)
  unfold new_t
  rw [newD_nat (by omega) (by omega), Option.bind_some, start_spec 700 0 z' g (by omega) (by omega), if_pos ⟨⟨by omega, by omega, by omega⟩, hg⟩, Option.bind_some]
  obtain ⟨e1, hmS⟩ := run_start (ofDk ⟨List.replicate z' DM.zeroS, []⟩) (by rw [dkOf_ofDk]; exact hm) (by rw [dkOf_ofDk]; simp; omega) (by rw [dkOf_ofDk]; simp) 0 g hg (by rw [dkOf_ofDk]; simp; omega)
  rw [dkOf_ofDk, flat_nil] at e1 hmS
  have e1' : jrun_t (ofDk ⟨List.replicate z' DM.zeroS, []⟩) [(false, ((0 : Int), unB (RM.textB 1 g 0 0 1))), (true, (0, []))] ((([(false, ((0 : Int), unB (RM.textB 1 g 0 0 1))), (true, (0, []))] : AcT).length : Nat) : Int) = some (ofDk ⟨(List.replicate z' DM.zeroS).set 0 (RM.textB 1 g 0 0 1), []⟩, 0) := e1
  simp only
  rw [e1', Option.bind_some]
  simp only [decide_true, Bool.not_true, cond_false]
  have hS0 : gB ((List.replicate z' DM.zeroS).set 0 (RM.textB 1 g 0 0 1)) 0 = RM.textB 1 g 0 0 1 := by rw [gB_set, if_pos ⟨rfl, by simp; omega⟩]
  have hSj : ∀ j, 0 + 1 ≤ j → j < 0 + z' → ¬ (RM.readOk (gB ((List.replicate z' DM.zeroS).set 0 (RM.textB 1 g 0 0 1)) j) ∧ RM.numAt (gB ((List.replicate z' DM.zeroS).set 0 (RM.textB 1 g 0 0 1)) j) 2 = g) := fun j h1 h2 h => by
    rw [gB_set, if_neg (by omega), gB_lt (by simp; omega), List.getElem_replicate] at h
    exact zero_not h.1
  have hSl : ((List.replicate z' DM.zeroS).set 0 (RM.textB 1 g 0 0 1)).length = z' := by simp
  generalize (List.replicate z' DM.zeroS).set 0 (RM.textB 1 g 0 0 1) = S at *
  obtain ⟨q1, q2⟩ := fresh_log (S := S) (f := 0) (z := z') hg hS0 hSj
  have eg := genB_text hg hS0
  have hI : rowI S z' g [] := ⟨hmS, hSl, eg, by unfold begP; rw [eg]; exact hS0, by rw [q1], by rw [q1]; exact q2⟩
  have hrow := row_loop z' (by omega) (by omega) g hg l (by omega) 700 0 S [] (by omega) hI (Nat.le_refl _) (Nat.zero_le _)
  rw [Int.natCast_zero, List.map_nil] at hrow
  rcases hrow with h | ⟨B', its', hI', hl', h⟩
  · rw [h]; rfl
  · rw [h, Option.bind_some]
    simp only [Sum.elim_inr]
    show Option.bind (jOpen_t 700 (ofDk ⟨B', []⟩) ((0 : Int), (z' : Int))) _ = _
    rw [row_open hI' (by omega) (by omega), Option.bind_some]
    simp only [decide_true, cond_true]
    rw [sam3_spec (by simp; omega) (by simp; omega), decide_eq_true rfl]
    rfl
end Ytabmdijfholakaa.AM
end Go.Proofs
