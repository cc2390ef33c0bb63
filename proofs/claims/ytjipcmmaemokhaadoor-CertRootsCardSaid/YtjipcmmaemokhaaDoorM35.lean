/- The twelve primes of the statements (the certificates made by drafts/genCerts.py, genPrD.py). -/
import Derived.Test.YtjipcmmaemokhaaDoorM34
import Derived.Test.YtjipcmmaemokhaaDoorM03
namespace Go.Proofs.YtjipcmmaemokhaaDoor.Prim
set_option maxRecDepth 100000

theorem pr0 : IsPrime 2861 := small_prime _ 56 (by decide) (by decide +kernel)
theorem pr1 : IsPrime 120163 := pock_of _ 81731 13 [2861] (fun x hx => by
    simp only [List.mem_cons, List.not_mem_nil, or_false] at hx
    subst hx
    exact pr0) (by decide +kernel)
theorem pr2 : IsPrime 7209781 := pock_of _ 5280241 18 [120163] (fun x hx => by
    simp only [List.mem_cons, List.not_mem_nil, or_false] at hx
    subst hx
    exact pr1) (by decide +kernel)
theorem pr3 : IsPrime 72097811 := pock_of _ 1024 24 [7209781] (fun x hx => by
    simp only [List.mem_cons, List.not_mem_nil, or_false] at hx
    subst hx
    exact pr2) (by decide +kernel)
theorem pr4 : IsPrime 576782489 := pock_of _ 256 28 [72097811] (fun x hx => by
    simp only [List.mem_cons, List.not_mem_nil, or_false] at hx
    subst hx
    exact pr3) (by decide +kernel)
theorem pr5 : IsPrime 10382084803 := pock_of _ 262144 31 [576782489] (fun x hx => by
    simp only [List.mem_cons, List.not_mem_nil, or_false] at hx
    subst hx
    exact pr4) (by decide +kernel)
theorem pr6 : IsPrime 539868409757 := pock_of _ 17353177602 35 [10382084803] (fun x hx => by
    simp only [List.mem_cons, List.not_mem_nil, or_false] at hx
    subst hx
    exact pr5) (by decide +kernel)
theorem pr7 : IsPrime 16196052292711 := pock_of _ 1073741824 40 [539868409757] (fun x hx => by
    simp only [List.mem_cons, List.not_mem_nil, or_false] at hx
    subst hx
    exact pr6) (by decide +kernel)
theorem pr8 : IsPrime 13441104704699787291817 := pock_of _ 8985009472711988570707 45 [16196052292711] (fun x hx => by
    simp only [List.mem_cons, List.not_mem_nil, or_false] at hx
    subst hx
    exact pr7) (by decide +kernel)
theorem pr9 : IsPrime 47973111322532835649969868904345266543 := pock_of _ 24992213893806235488820596507438833108 75 [13441104704699787291817] (fun x hx => by
    simp only [List.mem_cons, List.not_mem_nil, or_false] at hx
    subst hx
    exact pr8) (by decide +kernel)
theorem pr10 : IsPrime 401055210656374506033748104040326428299481 := pock_of _ 197270015177951487337913452430798444840762 127 [47973111322532835649969868904345266543] (fun x hx => by
    simp only [List.mem_cons, List.not_mem_nil, or_false] at hx
    subst hx
    exact pr9) (by decide +kernel)
theorem pr11 : IsPrime 1163834949570474183043526703053952552727969497293 := pock_of _ 446971346827376441294412741235311485107038776217 140 [401055210656374506033748104040326428299481] (fun x hx => by
    simp only [List.mem_cons, List.not_mem_nil, or_false] at hx
    subst hx
    exact pr10) (by decide +kernel)
theorem pr12 : IsPrime 37 := small_prime _ 9 (by decide) (by decide +kernel)
theorem pr13 : IsPrime 19 := small_prime _ 7 (by decide) (by decide +kernel)
theorem pr14 : IsPrime 13 := small_prime _ 6 (by decide) (by decide +kernel)
theorem pr15 : IsPrime 712843 := pock_of _ 174232 15 [37, 19, 13] (fun x hx => by
    simp only [List.mem_cons, List.not_mem_nil, or_false] at hx
    rcases hx with rfl | rfl | rfl
    · exact pr12
    · exact pr13
    · exact pr14) (by decide +kernel)
theorem pr16 : IsPrime 263 := small_prime _ 19 (by decide) (by decide +kernel)
theorem pr17 : IsPrime 173 := small_prime _ 16 (by decide) (by decide +kernel)
theorem pr18 : IsPrime 181997 := pock_of _ 16 17 [263, 173] (fun x hx => by
    simp only [List.mem_cons, List.not_mem_nil, or_false] at hx
    rcases hx with rfl | rfl
    · exact pr16
    · exact pr17) (by decide +kernel)
theorem pr19 : IsPrime 56909 := small_prime _ 241 (by decide) (by decide +kernel)
theorem pr20 : IsPrime 26779631022511456223851 := pock_of _ 11162768466533507465052 54 [712843, 181997, 56909] (fun x hx => by
    simp only [List.mem_cons, List.not_mem_nil, or_false] at hx
    rcases hx with rfl | rfl | rfl
    · exact pr15
    · exact pr18
    · exact pr19) (by decide +kernel)
theorem pr21 : IsPrime 14627 := small_prime _ 123 (by decide) (by decide +kernel)
theorem pr22 : IsPrime 751 := small_prime _ 30 (by decide) (by decide +kernel)
theorem pr23 : IsPrime 1076517947 := pock_of _ 396622055 25 [14627, 751] (fun x hx => by
    simp only [List.mem_cons, List.not_mem_nil, or_false] at hx
    rcases hx with rfl | rfl
    · exact pr21
    · exact pr22) (by decide +kernel)
theorem pr24 : IsPrime 471514860787 := pock_of _ 132228566064 32 [1076517947] (fun x hx => by
    simp only [List.mem_cons, List.not_mem_nil, or_false] at hx
    subst hx
    exact pr23) (by decide +kernel)
theorem pr25 : IsPrime 1288735409101345710672422423992970792392983761309 := pock_of _ 1044346072295551342807344997811597470885914417967 115 [26779631022511456223851, 471514860787] (fun x hx => by
    simp only [List.mem_cons, List.not_mem_nil, or_false] at hx
    rcases hx with rfl | rfl
    · exact pr20
    · exact pr24) (by decide +kernel)
theorem pr26 : IsPrime 1187 := small_prime _ 37 (by decide) (by decide +kernel)
theorem pr27 : IsPrime 853 := small_prime _ 32 (by decide) (by decide +kernel)
theorem pr28 : IsPrime 273377971 := pock_of _ 109101548 21 [1187, 853] (fun x hx => by
    simp only [List.mem_cons, List.not_mem_nil, or_false] at hx
    rcases hx with rfl | rfl
    · exact pr26
    · exact pr27) (by decide +kernel)
theorem pr29 : IsPrime 83 := small_prime _ 12 (by decide) (by decide +kernel)
theorem pr30 : IsPrime 61 := small_prime _ 10 (by decide) (by decide +kernel)
theorem pr31 : IsPrime 364537 := pock_of _ 78911 14 [83, 61] (fun x hx => by
    simp only [List.mem_cons, List.not_mem_nil, or_false] at hx
    rcases hx with rfl | rfl
    · exact pr29
    · exact pr30) (by decide +kernel)
theorem pr32 : IsPrime 262754823034761543617 := pock_of _ 137052909103136109811 48 [273377971, 364537] (fun x hx => by
    simp only [List.mem_cons, List.not_mem_nil, or_false] at hx
    rcases hx with rfl | rfl
    · exact pr28
    · exact pr31) (by decide +kernel)
theorem pr33 : IsPrime 155025345590509310734031 := pock_of _ 18780438568257911883740 69 [262754823034761543617] (fun x hx => by
    simp only [List.mem_cons, List.not_mem_nil, or_false] at hx
    subst hx
    exact pr32) (by decide +kernel)
theorem pr34 : IsPrime 7254692975959248193437119381781908099483772889 := pock_of _ 6145391055014710070692426500050653549521851622 79 [155025345590509310734031] (fun x hx => by
    simp only [List.mem_cons, List.not_mem_nil, or_false] at hx
    subst hx
    exact pr33) (by decide +kernel)
theorem pr35 : IsPrime 281830312730064873818645213743463565848745609191873 := pock_of _ 215803002487867140310432660100432252837676477645199 154 [7254692975959248193437119381781908099483772889] (fun x hx => by
    simp only [List.mem_cons, List.not_mem_nil, or_false] at hx
    subst hx
    exact pr34) (by decide +kernel)
theorem pr36 : IsPrime 929 := small_prime _ 33 (by decide) (by decide +kernel)
theorem pr37 : IsPrime 23 := small_prime _ 7 (by decide) (by decide +kernel)
theorem pr38 : IsPrime 11 := small_prime _ 6 (by decide) (by decide +kernel)
theorem pr39 : IsPrime 575840651 := pock_of _ 211803406 19 [929, 23, 11] (fun x hx => by
    simp only [List.mem_cons, List.not_mem_nil, or_false] at hx
    rcases hx with rfl | rfl | rfl
    · exact pr36
    · exact pr37
    · exact pr38) (by decide +kernel)
theorem pr40 : IsPrime 3095719339777 := pock_of _ 1809143924687 31 [575840651] (fun x hx => by
    simp only [List.mem_cons, List.not_mem_nil, or_false] at hx
    subst hx
    exact pr39) (by decide +kernel)
theorem pr41 : IsPrime 49531509436433 := pock_of _ 65536 43 [3095719339777] (fun x hx => by
    simp only [List.mem_cons, List.not_mem_nil, or_false] at hx
    subst hx
    exact pr40) (by decide +kernel)
theorem pr42 : IsPrime 239930631710081453 := pock_of _ 194556919874828412 47 [49531509436433] (fun x hx => by
    simp only [List.mem_cons, List.not_mem_nil, or_false] at hx
    subst hx
    exact pr41) (by decide +kernel)
theorem pr43 : IsPrime 3041 := small_prime _ 58 (by decide) (by decide +kernel)
theorem pr44 : IsPrime 2086127 := pock_of _ 1978303 13 [3041] (fun x hx => by
    simp only [List.mem_cons, List.not_mem_nil, or_false] at hx
    subst hx
    exact pr43) (by decide +kernel)
theorem pr45 : IsPrime 313 := small_prime _ 20 (by decide) (by decide +kernel)
theorem pr46 : IsPrime 7268725684133 := pock_of _ 5671971285613 31 [2086127, 313] (fun x hx => by
    simp only [List.mem_cons, List.not_mem_nil, or_false] at hx
    rcases hx with rfl | rfl
    · exact pr44
    · exact pr45) (by decide +kernel)
theorem pr47 : IsPrime 1418697720828789043313220908434905906973817253671 := pock_of _ 560048760914679466039548227303286763194750401689 102 [239930631710081453, 7268725684133] (fun x hx => by
    simp only [List.mem_cons, List.not_mem_nil, or_false] at hx
    rcases hx with rfl | rfl
    · exact pr42
    · exact pr46) (by decide +kernel)
theorem pr48 : IsPrime 1667 := small_prime _ 43 (by decide) (by decide +kernel)
theorem pr49 : IsPrime 1143563 := pock_of _ 525398 12 [1667] (fun x hx => by
    simp only [List.mem_cons, List.not_mem_nil, or_false] at hx
    subst hx
    exact pr48) (by decide +kernel)
theorem pr50 : IsPrime 50616385507 := pock_of _ 22245494251 22 [1143563] (fun x hx => by
    simp only [List.mem_cons, List.not_mem_nil, or_false] at hx
    subst hx
    exact pr49) (by decide +kernel)
theorem pr51 : IsPrime 15691079507171 := pock_of _ 6410768831352 37 [50616385507] (fun x hx => by
    simp only [List.mem_cons, List.not_mem_nil, or_false] at hx
    subst hx
    exact pr50) (by decide +kernel)
theorem pr52 : IsPrime 9448363723100679600199 := pock_of _ 3908132053284500764941 45 [15691079507171] (fun x hx => by
    simp only [List.mem_cons, List.not_mem_nil, or_false] at hx
    subst hx
    exact pr51) (by decide +kernel)
theorem pr53 : IsPrime 38118746843523480607336695249611 := pock_of _ 19496501390883385052145646566306 75 [9448363723100679600199] (fun x hx => by
    simp only [List.mem_cons, List.not_mem_nil, or_false] at hx
    subst hx
    exact pr52) (by decide +kernel)
theorem pr54 : IsPrime 1310236379634446016158758715920913884043974201029419142215939 := pock_of _ 208592973485573582354625674165963828462101722620566476584752 106 [38118746843523480607336695249611] (fun x hx => by
    simp only [List.mem_cons, List.not_mem_nil, or_false] at hx
    subst hx
    exact pr53) (by decide +kernel)
theorem pr55 : IsPrime 4073 := small_prime _ 66 (by decide) (by decide +kernel)
theorem pr56 : IsPrime 162634891 := pock_of _ 10186575 17 [4073, 11] (fun x hx => by
    simp only [List.mem_cons, List.not_mem_nil, or_false] at hx
    rcases hx with rfl | rfl
    · exact pr55
    · exact pr38) (by decide +kernel)
theorem pr57 : IsPrime 11728383938565929 := pock_of _ 7293511888124843 29 [162634891] (fun x hx => by
    simp only [List.mem_cons, List.not_mem_nil, or_false] at hx
    subst hx
    exact pr56) (by decide +kernel)
theorem pr58 : IsPrime 1381 := small_prime _ 40 (by decide) (by decide +kernel)
theorem pr59 : IsPrime 769 := small_prime _ 30 (by decide) (by decide +kernel)
theorem pr60 : IsPrime 217359412609 := pock_of _ 137106474381 22 [1381, 769] (fun x hx => by
    simp only [List.mem_cons, List.not_mem_nil, or_false] at hx
    rcases hx with rfl | rfl
    · exact pr58
    · exact pr59) (by decide +kernel)
theorem pr61 : IsPrime 28691442464389 := pock_of _ 6717361014521 39 [217359412609] (fun x hx => by
    simp only [List.mem_cons, List.not_mem_nil, or_false] at hx
    subst hx
    exact pr60) (by decide +kernel)
theorem pr62 : IsPrime 656856301804522644464159467047713 := pock_of _ 504241958132023133899587655369894 100 [11728383938565929, 28691442464389] (fun x hx => by
    simp only [List.mem_cons, List.not_mem_nil, or_false] at hx
    rcases hx with rfl | rfl
    · exact pr57
    · exact pr61) (by decide +kernel)
theorem pr63 : IsPrime 600979047206254162597200514667055041173704623027 := pock_of _ 86443562786299710376216756645799785685648461511 111 [656856301804522644464159467047713] (fun x hx => by
    simp only [List.mem_cons, List.not_mem_nil, or_false] at hx
    subst hx
    exact pr62) (by decide +kernel)
theorem pr64 : IsPrime 22919035504821450570489504768227216447227151991315848429 := pock_of _ 7992878667482919659533259971605452947489650473457075196 160 [600979047206254162597200514667055041173704623027] (fun x hx => by
    simp only [List.mem_cons, List.not_mem_nil, or_false] at hx
    subst hx
    exact pr63) (by decide +kernel)
theorem pr65 : IsPrime 42071 := small_prime _ 208 (by decide) (by decide +kernel)
theorem pr66 : IsPrime 84143 := pock_of _ 4 17 [42071] (fun x hx => by
    simp only [List.mem_cons, List.not_mem_nil, or_false] at hx
    subst hx
    exact pr65) (by decide +kernel)
theorem pr67 : IsPrime 3631 := small_prime _ 63 (by decide) (by decide +kernel)
theorem pr68 : IsPrime 8944498169309 := pock_of _ 3937542699948 30 [84143, 3631] (fun x hx => by
    simp only [List.mem_cons, List.not_mem_nil, or_false] at hx
    rcases hx with rfl | rfl
    · exact pr66
    · exact pr67) (by decide +kernel)
theorem pr69 : IsPrime 10979908172716956041 := pock_of _ 6073406223216041273 45 [8944498169309] (fun x hx => by
    simp only [List.mem_cons, List.not_mem_nil, or_false] at hx
    subst hx
    exact pr68) (by decide +kernel)
theorem pr70 : IsPrime 5009 := small_prime _ 73 (by decide) (by decide +kernel)
theorem pr71 : IsPrime 227 := small_prime _ 18 (by decide) (by decide +kernel)
theorem pr72 : IsPrime 4918848019 := pock_of _ 2264776534 22 [5009, 227] (fun x hx => by
    simp only [List.mem_cons, List.not_mem_nil, or_false] at hx
    rcases hx with rfl | rfl
    · exact pr70
    · exact pr71) (by decide +kernel)
theorem pr73 : IsPrime 38701701869545080407007854504017349044417 := pock_of _ 33170906382013727860177707279298955443260 97 [10979908172716956041, 4918848019] (fun x hx => by
    simp only [List.mem_cons, List.not_mem_nil, or_false] at hx
    rcases hx with rfl | rfl
    · exact pr69
    · exact pr72) (by decide +kernel)
theorem pr74 : IsPrime 113061462240975218915820385073931929279509318578960546695258769493029707811449 := pock_of _ 55376673910964497941992877519278107153782867119151230819192626792678130824639 136 [38701701869545080407007854504017349044417] (fun x hx => by
    simp only [List.mem_cons, List.not_mem_nil, or_false] at hx
    subst hx
    exact pr73) (by decide +kernel)
theorem pr75 : IsPrime 239 := small_prime _ 18 (by decide) (by decide +kernel)
theorem pr76 : IsPrime 7 := small_prime _ 5 (by decide) (by decide +kernel)
theorem pr77 : IsPrime 140533 := pock_of _ 32216 12 [239, 7] (fun x hx => by
    simp only [List.mem_cons, List.not_mem_nil, or_false] at hx
    rcases hx with rfl | rfl
    · exact pr75
    · exact pr76) (by decide +kernel)
theorem pr78 : IsPrime 1181 := small_prime _ 37 (by decide) (by decide +kernel)
theorem pr79 : IsPrime 572594681851 := pock_of _ 548070907044 29 [140533, 1181] (fun x hx => by
    simp only [List.mem_cons, List.not_mem_nil, or_false] at hx
    rcases hx with rfl | rfl
    · exact pr77
    · exact pr78) (by decide +kernel)
theorem pr80 : IsPrime 2138757293270645293861 := pock_of _ 1357176785655276707482 41 [572594681851] (fun x hx => by
    simp only [List.mem_cons, List.not_mem_nil, or_false] at hx
    subst hx
    exact pr79) (by decide +kernel)
theorem pr81 : IsPrime 60631 := small_prime _ 249 (by decide) (by decide +kernel)
theorem pr82 : IsPrime 1818931 := pock_of _ 572534 17 [60631] (fun x hx => by
    simp only [List.mem_cons, List.not_mem_nil, or_false] at hx
    subst hx
    exact pr81) (by decide +kernel)
theorem pr83 : IsPrime 26981 := small_prime _ 167 (by decide) (by decide +kernel)
theorem pr84 : IsPrime 18946503436684661 := pock_of _ 18784656851416792 37 [1818931, 26981] (fun x hx => by
    simp only [List.mem_cons, List.not_mem_nil, or_false] at hx
    rcases hx with rfl | rfl
    · exact pr82
    · exact pr83) (by decide +kernel)
theorem pr85 : IsPrime 32855944623250276892162746461086154341896979 := pock_of _ 17830643938401458697462887051109754114513448 126 [2138757293270645293861, 18946503436684661] (fun x hx => by
    simp only [List.mem_cons, List.not_mem_nil, or_false] at hx
    rcases hx with rfl | rfl
    · exact pr80
    · exact pr84) (by decide +kernel)
theorem pr86 : IsPrime 826460666225171274790399747333728442643037482054250537932844311394203185709 := pock_of _ 598511588820063081436465121550264534531277345693642934309456516751805419149 146 [32855944623250276892162746461086154341896979] (fun x hx => by
    simp only [List.mem_cons, List.not_mem_nil, or_false] at hx
    subst hx
    exact pr85) (by decide +kernel)
theorem pr87 : IsPrime 90910673284768840226943972206710128690734123025967559172612874253362350427991 := pock_of _ 1298074214633706907132624082305024 250 [826460666225171274790399747333728442643037482054250537932844311394203185709] (fun x hx => by
    simp only [List.mem_cons, List.not_mem_nil, or_false] at hx
    subst hx
    exact pr86) (by decide +kernel)
theorem pr88 : IsPrime 26669 := small_prime _ 166 (by decide) (by decide +kernel)
theorem pr89 : IsPrime 229 := small_prime _ 18 (by decide) (by decide +kernel)
theorem pr90 : IsPrime 1624515467 := pock_of _ 1021101623 24 [26669, 229] (fun x hx => by
    simp only [List.mem_cons, List.not_mem_nil, or_false] at hx
    rcases hx with rfl | rfl
    · exact pr88
    · exact pr89) (by decide +kernel)
theorem pr91 : IsPrime 6723879265005803 := pock_of _ 4690760837488472 32 [1624515467] (fun x hx => by
    simp only [List.mem_cons, List.not_mem_nil, or_false] at hx
    subst hx
    exact pr90) (by decide +kernel)
theorem pr92 : IsPrime 27154826099638832674969777 := pock_of _ 2900122252093938792900766 54 [6723879265005803] (fun x hx => by
    simp only [List.mem_cons, List.not_mem_nil, or_false] at hx
    subst hx
    exact pr91) (by decide +kernel)
theorem pr93 : IsPrime 2493460205705750514897606632802461037592475062243 := pock_of _ 1124816623823475365837271928261707995218503175000 86 [27154826099638832674969777] (fun x hx => by
    simp only [List.mem_cons, List.not_mem_nil, or_false] at hx
    subst hx
    exact pr92) (by decide +kernel)
theorem pr94 : IsPrime 1509543318857785021481079680188875689349680007971987591568521823727 := pock_of _ 1068507375669393305024391260487179697647300253270861840253176493976 162 [2493460205705750514897606632802461037592475062243] (fun x hx => by
    simp only [List.mem_cons, List.not_mem_nil, or_false] at hx
    subst hx
    exact pr93) (by decide +kernel)
theorem pr95 : IsPrime 1957974447598010049851627816671274087251712194716712123847653453814722955282495801629546471273139 := pock_of _ 833951342085554132148963203056663941860457294302738849773940887376383367252579180657986106661409 221 [1509543318857785021481079680188875689349680007971987591568521823727] (fun x hx => by
    simp only [List.mem_cons, List.not_mem_nil, or_false] at hx
    subst hx
    exact pr94) (by decide +kernel)
theorem pr96 : IsPrime 42961 := small_prime _ 210 (by decide) (by decide +kernel)
theorem pr97 : IsPrime 1718441 := pock_of _ 1522746 17 [42961] (fun x hx => by
    simp only [List.mem_cons, List.not_mem_nil, or_false] at hx
    subst hx
    exact pr96) (by decide +kernel)
theorem pr98 : IsPrime 30931939 := pock_of _ 262144 22 [1718441] (fun x hx => by
    simp only [List.mem_cons, List.not_mem_nil, or_false] at hx
    subst hx
    exact pr97) (by decide +kernel)
theorem pr99 : IsPrime 74720243534327 := pock_of _ 31660081521988 26 [30931939] (fun x hx => by
    simp only [List.mem_cons, List.not_mem_nil, or_false] at hx
    subst hx
    exact pr98) (by decide +kernel)
theorem pr100 : IsPrime 3931 := small_prime _ 65 (by decide) (by decide +kernel)
theorem pr101 : IsPrime 139 := small_prime _ 14 (by decide) (by decide +kernel)
theorem pr102 : IsPrime 300524951 := pock_of _ 60266122 21 [3931, 139] (fun x hx => by
    simp only [List.mem_cons, List.not_mem_nil, or_false] at hx
    rcases hx with rfl | rfl
    · exact pr100
    · exact pr101) (by decide +kernel)
theorem pr103 : IsPrime 185967702032728430028124893485546830531270769 := pock_of _ 44867762830112153303939890933904297806508083 76 [74720243534327, 300524951] (fun x hx => by
    simp only [List.mem_cons, List.not_mem_nil, or_false] at hx
    rcases hx with rfl | rfl
    · exact pr99
    · exact pr102) (by decide +kernel)
theorem pr104 : IsPrime 276192905825051281425903997207094847787222902937622317244868974219643355639093 := pock_of _ 92005505047999082398849468977451298561069175834059346302425823023440979791291 149 [185967702032728430028124893485546830531270769] (fun x hx => by
    simp only [List.mem_cons, List.not_mem_nil, or_false] at hx
    subst hx
    exact pr103) (by decide +kernel)
theorem pr105 : IsPrime 1728381604386483307446037636824705003380592604381906202754043080934100205046160632779424876616489 := pock_of _ 5466186397506418440048595307615380891330248326040898002615418398006952960286662825593347758923 259 [276192905825051281425903997207094847787222902937622317244868974219643355639093] (fun x hx => by
    simp only [List.mem_cons, List.not_mem_nil, or_false] at hx
    subst hx
    exact pr104) (by decide +kernel)
theorem pr106 : IsPrime 1721 := small_prime _ 44 (by decide) (by decide +kernel)
theorem pr107 : IsPrime 1135861 := pock_of _ 784979 12 [1721] (fun x hx => by
    simp only [List.mem_cons, List.not_mem_nil, or_false] at hx
    subst hx
    exact pr106) (by decide +kernel)
theorem pr108 : IsPrime 34075831 := pock_of _ 17391063 22 [1135861] (fun x hx => by
    simp only [List.mem_cons, List.not_mem_nil, or_false] at hx
    subst hx
    exact pr107) (by decide +kernel)
theorem pr109 : IsPrime 149252139781 := pock_of _ 129885578772 27 [34075831] (fun x hx => by
    simp only [List.mem_cons, List.not_mem_nil, or_false] at hx
    subst hx
    exact pr108) (by decide +kernel)
theorem pr110 : IsPrime 439 := small_prime _ 23 (by decide) (by decide +kernel)
theorem pr111 : IsPrime 193 := small_prime _ 16 (by decide) (by decide +kernel)
theorem pr112 : IsPrime 2880719 := pock_of _ 2141787 18 [439, 193] (fun x hx => by
    simp only [List.mem_cons, List.not_mem_nil, or_false] at hx
    rcases hx with rfl | rfl
    · exact pr110
    · exact pr111) (by decide +kernel)
theorem pr113 : IsPrime 808007265765482147717311 := pock_of _ 110529144791953987050522 60 [149252139781, 2880719] (fun x hx => by
    simp only [List.mem_cons, List.not_mem_nil, or_false] at hx
    rcases hx with rfl | rfl
    · exact pr109
    · exact pr112) (by decide +kernel)
theorem pr114 : IsPrime 261420708009805121149287132466478795231352563 := pock_of _ 132301731807710317123905269506586687689559320 81 [808007265765482147717311] (fun x hx => by
    simp only [List.mem_cons, List.not_mem_nil, or_false] at hx
    subst hx
    exact pr113) (by decide +kernel)
theorem pr115 : IsPrime 1171150282070780199625168979928464675825376737799620435385649617953536478434422327171971 := pock_of _ 283895423559791896423046352039901150563888184042466307263039600201483950319317332601356 149 [261420708009805121149287132466478795231352563] (fun x hx => by
    simp only [List.mem_cons, List.not_mem_nil, or_false] at hx
    subst hx
    exact pr114) (by decide +kernel)
theorem pr116 : IsPrime 30607257452791662560067753787362752483905705785799875638834622217382747465305929740166278880134040262482074526095249 := luc_of _ 1171150282070780199625168979928464675825376737799620435385649617953536478434422327171971 3 1552420130428670711110661684375519893845090460893449608011649664656753382527359779726565098614814529357208410146655 5578377491462194397693465759008698377270923626733074851173961181734918051752131335883148960430104651434837822930725 291 pr115 (by decide +kernel)
theorem pr117 : IsPrime 38039 := small_prime _ 198 (by decide) (by decide +kernel)
theorem pr118 : IsPrime 76079 := pock_of _ 4 17 [38039] (fun x hx => by
    simp only [List.mem_cons, List.not_mem_nil, or_false] at hx
    subst hx
    exact pr117) (by decide +kernel)
theorem pr119 : IsPrime 827 := small_prime _ 31 (by decide) (by decide +kernel)
theorem pr120 : IsPrime 158803348493 := pock_of _ 11482298746 27 [76079, 827] (fun x hx => by
    simp only [List.mem_cons, List.not_mem_nil, or_false] at hx
    rcases hx with rfl | rfl
    · exact pr118
    · exact pr119) (by decide +kernel)
theorem pr121 : IsPrime 1174997726947495483 := pock_of _ 258531162830065364 39 [158803348493] (fun x hx => by
    simp only [List.mem_cons, List.not_mem_nil, or_false] at hx
    subst hx
    exact pr120) (by decide +kernel)
theorem pr122 : IsPrime 10342798118736257485251400099 := pock_of _ 6486307015715053720396587886 62 [1174997726947495483] (fun x hx => by
    simp only [List.mem_cons, List.not_mem_nil, or_false] at hx
    subst hx
    exact pr121) (by decide +kernel)
theorem pr123 : IsPrime 434397520986922814380558804159 := pock_of _ 4398046511104 95 [10342798118736257485251400099] (fun x hx => by
    simp only [List.mem_cons, List.not_mem_nil, or_false] at hx
    subst hx
    exact pr122) (by decide +kernel)
theorem pr124 : IsPrime 552553646695365819892070798890249 := pock_of _ 370918854612380098203700600839312 100 [434397520986922814380558804159] (fun x hx => by
    simp only [List.mem_cons, List.not_mem_nil, or_false] at hx
    subst hx
    exact pr123) (by decide +kernel)
theorem pr125 : IsPrime 1874482011118673846331784764003185849296788959 := pock_of _ 1620698017581050026930766621712828842550823913 110 [552553646695365819892070798890249] (fun x hx => by
    simp only [List.mem_cons, List.not_mem_nil, or_false] at hx
    subst hx
    exact pr124) (by decide +kernel)
theorem pr126 : IsPrime 3507308359653228071138303962158263320922276633964697665283 := pock_of _ 657731086783573560291154449866352764974253164316499551151 152 [1874482011118673846331784764003185849296788959] (fun x hx => by
    simp only [List.mem_cons, List.not_mem_nil, or_false] at hx
    subst hx
    exact pr125) (by decide +kernel)
theorem pr127 : IsPrime 96845694415840280287533459075641731683294846380071902528220279401928892665973 := pock_of _ 74693234418206343739451683286026721277293534869869212759599419889132517691826 193 [3507308359653228071138303962158263320922276633964697665283] (fun x hx => by
    simp only [List.mem_cons, List.not_mem_nil, or_false] at hx
    subst hx
    exact pr126) (by decide +kernel)
theorem pr128 : IsPrime 31572641118370252159416799156025374717930581320827905634720483159665065926370164418327648836533289527397685295155471 := luc_of _ 96845694415840280287533459075641731683294846380071902528220279401928892665973 11 11147633151592686932425478194482045237420569203630427886538336796172315857235349989640934814408372130429905494691543 31166497668548760808642102546323906760181231990061779127502024178314126996082411607796030601069807484114131333506434 257 pr127 (by decide +kernel)
theorem isPrime0 : IsPrime 1163834949570474183043526703053952552727969497293 := pr11
theorem isPrime1 : IsPrime 1288735409101345710672422423992970792392983761309 := pr25
theorem isPrime2 : IsPrime 281830312730064873818645213743463565848745609191873 := pr35
theorem isPrime3 : IsPrime 1418697720828789043313220908434905906973817253671 := pr47
theorem isPrime4 : IsPrime 1310236379634446016158758715920913884043974201029419142215939 := pr54
theorem isPrime5 : IsPrime 22919035504821450570489504768227216447227151991315848429 := pr64
theorem isPrime6 : IsPrime 113061462240975218915820385073931929279509318578960546695258769493029707811449 := pr74
theorem isPrime7 : IsPrime 90910673284768840226943972206710128690734123025967559172612874253362350427991 := pr87
theorem isPrime8 : IsPrime 1957974447598010049851627816671274087251712194716712123847653453814722955282495801629546471273139 := pr95
theorem isPrime9 : IsPrime 1728381604386483307446037636824705003380592604381906202754043080934100205046160632779424876616489 := pr105
theorem isPrime10 : IsPrime 30607257452791662560067753787362752483905705785799875638834622217382747465305929740166278880134040262482074526095249 := pr116
theorem isPrime11 : IsPrime 31572641118370252159416799156025374717930581320827905634720483159665065926370164418327648836533289527397685295155471 := pr128
end Go.Proofs.YtjipcmmaemokhaaDoor.Prim
namespace Go.Proofs.YtjipcmmaemokhaaDoor
open Go.RowKit
set_option linter.unusedVariables false
set_option linter.unusedSimpArgs false
set_option maxRecDepth 100000

def prN : Nat → Nat
  | 0 => 1163834949570474183043526703053952552727969497293
  | 1 => 1288735409101345710672422423992970792392983761309
  | 2 => 281830312730064873818645213743463565848745609191873
  | 3 => 1418697720828789043313220908434905906973817253671
  | 4 => 1310236379634446016158758715920913884043974201029419142215939
  | 5 => 22919035504821450570489504768227216447227151991315848429
  | 6 => 113061462240975218915820385073931929279509318578960546695258769493029707811449
  | 7 => 90910673284768840226943972206710128690734123025967559172612874253362350427991
  | 8 => 1957974447598010049851627816671274087251712194716712123847653453814722955282495801629546471273139
  | 9 => 1728381604386483307446037636824705003380592604381906202754043080934100205046160632779424876616489
  | 10 => 30607257452791662560067753787362752483905705785799875638834622217382747465305929740166278880134040262482074526095249
  | 11 => 31572641118370252159416799156025374717930581320827905634720483159665065926370164418327648836533289527397685295155471
  | _ => 0
def prL : Nat → Nat
  | 0 => 20
  | 1 => 20
  | 2 => 21
  | 3 => 20
  | 4 => 25
  | 5 => 23
  | 6 => 32
  | 7 => 32
  | 8 => 40
  | 9 => 40
  | 10 => 48
  | 11 => 48
  | _ => 0
def hexC (d : Nat) : UInt8 := UInt8.ofNat (if d < 10 then 48 + d else 87 + d)
def hexTx (n : Nat) : Nat → List UInt8
  | 0 => []
  | k + 1 => hexC (n / 16 ^ k % 16) :: hexTx n k
/-- a prime, as it is written in the table -/
def hexT (j : Nat) : ByteArray := ⟨(hexTx (prN j) (2 * prL j)).toArray⟩
/-- and in bytes -/
def prB (j : Nat) : ByteArray := strOfNums (bigL (prN j) (prL j))
theorem prN_prime (j : Nat) (h : j < 12) : Prim.IsPrime (prN j) := by
  match j, h with
  | 0, _ => exact Prim.isPrime0
  | 1, _ => exact Prim.isPrime1
  | 2, _ => exact Prim.isPrime2
  | 3, _ => exact Prim.isPrime3
  | 4, _ => exact Prim.isPrime4
  | 5, _ => exact Prim.isPrime5
  | 6, _ => exact Prim.isPrime6
  | 7, _ => exact Prim.isPrime7
  | 8, _ => exact Prim.isPrime8
  | 9, _ => exact Prim.isPrime9
  | 10, _ => exact Prim.isPrime10
  | 11, _ => exact Prim.isPrime11
theorem hexT_size (j : Nat) : (hexT j).size = 2 * prL j := by
  have : ∀ (n k : Nat), (hexTx n k).length = k := by
    intro n k
    induction k with
    | zero => rfl
    | succ k ih => simp [hexTx, ih]
  rw [hexT]
  show ((hexTx (prN j) (2 * prL j)).toArray).size = _
  simp [this]
theorem prL_le (j : Nat) (h : j < 12) : prL j ≤ 48 := by
  have : ∀ j : Fin 12, prL j.val ≤ 48 := by decide
  exact this ⟨j, h⟩
theorem hexT_hex (j : Nat) (h : j < 12) : ∀ c, c ∈ (hexT j).data.toList → isHex c.toNat = true := by
  have : ∀ j : Fin 12, ((hexTx (prN j.val) (2 * prL j.val)).all fun c => isHex c.toNat) = true := by decide +kernel
  intro c hc
  have h2 := this ⟨j, h⟩
  rw [List.all_eq_true] at h2
  exact h2 c (by simpa [hexT] using hc)
theorem hexT_bytes (j : Nat) (h : j < 12) : strOfNums (hexL (hexT j).data.toList) = prB j := by
  have : ∀ j : Fin 12, hexL (hexTx (prN j.val) (2 * prL j.val)) = bigL (prN j.val) (prL j.val) := by decide +kernel
  rw [prB, ← this ⟨j, h⟩]
  simp [hexT]
theorem prN_lt (j : Nat) (h : j < 12) : prN j < 256 ^ prL j := by
  have : ∀ j : Fin 12, prN j.val < 256 ^ prL j.val := by decide +kernel
  exact this ⟨j, h⟩
theorem prB_val (j : Nat) (h : j < 12) : valN (prB j).data.toList = prN j := by
  rw [prB, valN_strR, Nat.mod_eq_of_lt (prN_lt j h)]
theorem pair_unlike (i : Nat) (h : i < 6) : prN (2 * i) ≠ prN (2 * i + 1) := by
  have : ∀ i : Fin 6, prN (2 * i.val) ≠ prN (2 * i.val + 1) := by decide +kernel
  exact this ⟨i, h⟩
theorem pair_secret (i : Nat) (h : i < 6) : secE (prB (2 * i)) (prB (2 * i + 1)) = 0 := by
  have : ∀ i : Fin 6, secE (prB (2 * i.val)) (prB (2 * i.val + 1)) = 0 := by decide +kernel
  exact this ⟨i, h⟩
theorem pair_mod (i : Nat) (h : i < 6) : valN (secM (prB (2 * i)) (prB (2 * i + 1))).data.toList = prN (2 * i) * prN (2 * i + 1) := by
  have : ∀ i : Fin 6, valN (secM (prB (2 * i.val)) (prB (2 * i.val + 1))).data.toList = prN (2 * i.val) * prN (2 * i.val + 1) := by decide +kernel
  exact this ⟨i, h⟩
/-- Raise is the way back from Root, and Root from Raise -/
theorem pair_back (i : Nat) (h : i < 6) {x : ByteArray} (hx : powE (secM (prB (2 * i)) (prB (2 * i + 1))) x = 0) :
    powT (secM (prB (2 * i)) (prB (2 * i + 1))) (powT (secM (prB (2 * i)) (prB (2 * i + 1))) x (secD (prB (2 * i)) (prB (2 * i + 1)))) 3 = x ∧
    powT (secM (prB (2 * i)) (prB (2 * i + 1))) (powT (secM (prB (2 * i)) (prB (2 * i + 1))) x 3) (secD (prB (2 * i)) (prB (2 * i + 1))) = x := by
  have h3 := secD_three (pair_secret i h)
  rw [prB_val _ (by omega), prB_val _ (by omega)] at h3
  exact ⟨rsa_text hx _ _ _ _ (prN_prime _ (by omega)) (prN_prime _ (by omega)) (pair_unlike i h) (pair_mod i h) ⟨_, by rw [Nat.mul_comm]; exact h3⟩,
    rsa_text hx _ _ _ _ (prN_prime _ (by omega)) (prN_prime _ (by omega)) (pair_unlike i h) (pair_mod i h) ⟨_, h3⟩⟩
/-- the table in memory -/
def PairTab (w : World) : Prop := ∀ j, j < 12 → w.cell? ⟨0, j, none⟩ = some (.string (hexT j))
theorem PairTab.lt {w : World} (h : PairTab w) : 0 < w.heap.size := World.block_lt_of_cell? _ _ (h 0 (by decide))
theorem PairTab.below {w w' : World} {b : Nat} (h : PairTab w) (hb : Below b w w') (h0 : 0 < b) : PairTab w' := fun j hj => (hb.cell (by exact h0)).trans (h j hj)
end Go.Proofs.YtjipcmmaemokhaaDoor
